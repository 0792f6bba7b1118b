import Derived.Test.YtpicaknklgccoabGreatDoorS30
set_option maxHeartbeats 4000000
set_option maxRecDepth 100000
namespace Go.Proofs.YtpicaknklgccoabGreatDoor
open Go.RowKit
open Go.Lib (decDigits)
theorem Tryz.Q8:(Tryz.prog.info? 26).map (fun i=>(i.zero,i.size,i.bytes))=some (some (.pointer none),1,8):=by kernel_rfl
theorem Tryz.Q9:Tryz.prog.underlying 68=some (.slice 26):=by kernel_rfl
theorem SG {w0:World} {yb fuel:Nat} (b q:Nat) (vals:List Vl) (ps:List Nat) (v:Vl) (st:bY) (nv:Value) (w:World) (R:Vl × bY)
  (hf:∀ (nv:Value) (w:World),dE w0 w yb (vals++[v]) (ps++[q]) fuel st nv->Calls Tryz.prog 29 #[.pointer (some ⟨yb,0,none⟩),.pointer (some ⟨b,0,none⟩)] w fun e w'=>∃ r bB,e=.returned (.pointer (some ⟨r,0,none⟩))/\cO w w' yb nv bB/\dE w0 w' yb (vals++[v]) (ps++[q]) fuel R.2 bB/\dD w' R.1 r)
  (h:dE w0 w yb vals ps fuel st nv) (hq:dD w v q) (hl:vals.length<=200) :
  Calls Tryz.prog 49 #[.pointer (some ⟨yb,0,none⟩),.pointer (some ⟨q,0,none⟩),.pointer (some ⟨b,0,none⟩)] w fun e w'=>∃ r bB,e=.returned (.pointer (some ⟨r,0,none⟩))/\cO w w' yb nv bB/\dE w0 w' yb vals ps fuel R.2 bB/\dD w' R.1 r:=by
 obtain ⟨i0,hi,hz0,hz1,hz2⟩:=info_parts Tryz.Q8
 have HI:Hid _:=hi
 have pZ:Hid _:=hz0
 have p8:Hid _:=hz1
 have p9:Hid _:=hz2
 have HH:Hid _:=h
 have nP:=af h.ob.y
 have hpl:=h.len
 have abQ:ps.length<=200:=by omega
 obtain ⟨na,nc,pG,_,_⟩:=h.ob.shape
 rw [fA] at pG
 have y3:w.cell? ⟨yb,0,none⟩=some (.slice na ps.length nc):=by rw [aa h.ob.y,<- pG];rfl
 have f3:w.frozen? ⟨yb,0,none⟩=false:=ag h.ob.y 0
 have hown:w.ownsRow 0 26 1 (.slice na ps.length nc) ps.length (nH ps):=by
  have:=dn (base':=0) h.ob.n (fun _ _=>Nat.zero_le _)
  rw [fA,pG] at this;exact this
 have EZ:Hid _:=pG
 have dY:Hid (w.ownsRow 0 26 1 (.slice na ps.length nc) ps.length (nH ps)):=hown
 have Yu:Hid _:=hf
 have HQ:Hid _:=hq
 clear hi hz0 hz1 hz2 hown pG h hf hq hpl
 go_enter Tryz.func49,Tryz.ntmps49
 go_wp2_with (at_builtin;go_must (refine oX _ rfl (.tmp 18) (.tmp 20) 68 rfl 26 i0 _ 1 8 Tryz.Q9 HI.out pZ.out p8.out p9.out rfl (by decide) (.slice na ps.length nc) ps.length (nH ps) rfl (dY.out.alloc _) ⟨w.heap.size,0,none⟩ 1 1 [.pointer (some ⟨q,0,none⟩)] rfl rfl ?d1 ?d2 (by decide) ?d3 ?d4 ?_))
 case d1 =>
  intro j' u hj'
  match j',hj' with
  | 0,hj'=>simp at hj';subst hj';simp [Addr.add]
  | j'+1,hj'=>simp at hj'
 case d2=>intro u hu;simp at hu;subst hu;rfl
 case d3=>unfold maxLen;omega
 case d4=>omega
 intro g1 c1 w3 PU U5 Ni
 have gI:=jW.push (x:=.pointer (some ⟨q,0,none⟩)) (o:=0) (W:=w3.setCell ⟨yb,0,none⟩ (.slice (some ⟨g1,0,none⟩) (ps.length+1) c1)) HH.out.ob (by rw [EZ.out];exact U5) (by rw [fA];exact PU) (by rw [EZ.out];simpa using Ni) (by rw [fA])
 rw [fA] at gI
 obtain ⟨Yv,hs1⟩:=gI
 have mn:dE w0 (w3.setCell ⟨yb,0,none⟩ (.slice (some ⟨g1,0,none⟩) (ps.length+1) c1)) yb (vals++[v]) (ps++[q]) fuel st (.slice (some ⟨g1,0,none⟩) (ps.length+1) c1):=by
  refine ⟨?_,by simp [HH.out.len],?_⟩
  ·rw [xZ];exact Yv
  ·intro i u p h1 h2
   rcases Nat.lt_or_ge i vals.length with hlt | hge
   ·rw [List.getElem?_append_left hlt] at h1
    rw [List.getElem?_append_left (by rw [HH.out.len];exact hlt)] at h2
    exact (HH.out.v i u p h1 h2).fr HH.out.ob hs1
   ·rw [List.getElem?_append_right hge] at h1
    rw [List.getElem?_append_right (by rw [HH.out.len];exact hge),HH.out.len] at h2
    have hi0:i - vals.length=0:=by
     rcases Nat.eq_zero_or_pos (i - vals.length) with h | h
     ·exact h
     ·rw [List.getElem?_eq_none (by simp;omega)] at h1;cases h1
    rw [hi0] at h1 h2
    simp only [List.getElem?_cons_zero,Option.some.injEq] at h1 h2
    subst h1;subst h2
    exact HQ.out.fr HH.out.ob hs1
 have hcall:=Yu.out _ _ mn
 have QY:w3.heap[yb]?=some (.cells (dB nv fuel st) 70 (0,0)):=by
  rw [U5.block yb (by simp;omega) (fun e=>HH.out.ob.ny (by rw [EZ.out];exact e.symm)),Below.heap_alloc _ _ _ nP];exact HH.out.ob.y
 have aaK:=af QY
 have y33:w3.cell? ⟨yb,0,none⟩=some nv:=by rw [aa QY];rfl
 have f33:w3.frozen? ⟨yb,0,none⟩=false:=ag QY 0
 have HC:Hid _:=hcall
 have Jn:Hid _:=hs1
 clear PU U5 Ni Yv QY y3 f3 hcall mn hs1 Yu dY HQ
 go_wp2_with fail
 refine Calls.mono HC.out ?_
 rintro _ w7 ⟨r,Yb,rfl,aV,QZ,Yw⟩
 obtain ⟨na7,BF,tX,Nj,FZ⟩:=QZ.ob.shape
 have yU:=QZ.ob
 rw [fA,List.length_append,List.length_singleton] at tX FZ Nj
 obtain ⟨g7,Yx⟩:=FZ (by omega)
 rw [Yx] at tX
 have y37:w7.cell? ⟨yb,0,none⟩=some (.slice (some ⟨g7,0,none⟩) (ps.length+1) BF):=by rw [aa yU.y,<- tX];rfl
 have f37:w7.frozen? ⟨yb,0,none⟩=false:=ag yU.y 0
 have aaL:=af yU.y
 have hP:jW w0 (w7.setCell ⟨yb,0,none⟩ (.slice (some ⟨g7,0,none⟩) ps.length BF)) yb (dB (.slice (some ⟨g7,0,none⟩) ps.length BF) fuel R.2) 70 (.slice (some ⟨g7,0,none⟩) ps.length BF) 26 (nH ps):=by
  have h1:=yU
  rw [xZ,tX] at h1
  have h2:=jW.pop (o:=0) (xs:=nH ps) (x:=.pointer (some ⟨q,0,none⟩)) (g:=g7) (cap:=BF) (by rw [fA];exact h1)
  rw [fA] at h2
  exact h2
 have hfs:=cO.xO w7 yb Yb 0 (.slice (some ⟨g7,0,none⟩) ps.length BF)
 have SE:Hid (dE w0 (w7.setCell ⟨yb,0,none⟩ (.slice (some ⟨g7,0,none⟩) ps.length BF)) yb vals ps fuel R.2 (.slice (some ⟨g7,0,none⟩) ps.length BF)):=by
  refine ⟨hP,HH.out.len,fun i u p h1 h2=>?_⟩
  have hiv:=(List.getElem?_eq_some_iff.1 h1).1
  refine (QZ.v i u p ?_ ?_).fr yU hfs
  ·rw [List.getElem?_append_left hiv];exact h1
  ·rw [List.getElem?_append_left (by rw [HH.out.len];exact hiv)];exact h2
 have tI:Hid _:=Yw.fr yU hfs
 have qI:Hid _:=((Jn.out.trans aV).trans hfs).Nd (cz:=.slice (some ⟨g7,0,none⟩) ps.length BF) (by rw [tX];rfl)
 clear aV QZ Yw yU tX FZ Yx hP hfs HC Jn y33 f33
 go_wp2
 go_ret
 exact ⟨r,_,rfl,qI.out,SE.out,tI.out⟩
structure sY (fuel:Nat) (st:bY):Prop where
 f:fuel<=20000
 s:st.steps<=fuel
 c:st.cells<=st.steps
theorem sY.on {fuel:Nat} {st:bY} (h:sY fuel st) (t:PT) (env:dL):sY fuel (ev fuel t env st).2:=by
 have h1:=iQ fuel t env st h.s
 exact ⟨h.f,h1.1,by have:=h.c;omega⟩
theorem sY.step {fuel:Nat} {st:bY} (hs:sY fuel st) (hq:st.steps≠fuel):sY fuel { st with steps:=st.steps+1 } :=
 ⟨hs.f,by have:=hs.s;show st.steps+1<=fuel;omega,by have:=hs.c;show st.cells<=st.steps+1;omega⟩
def Ko (w0:World) (yb fuel:Nat) (x:KE) (vs:List Nat):Prop :=
 ∀ (b:Nat) (vals:List Vl) (ps:List Nat) (st:bY) (nv:Value) (w:World),eS w0 x b->dE w0 w yb vals ps fuel st nv->(st.e=0->oN (cu vals) (xV vs))->vals.length=vs.length->sY fuel st ->
  Calls Tryz.prog 29 #[.pointer (some ⟨yb,0,none⟩),.pointer (some ⟨b,0,none⟩)] w fun e w'=>∃ r bB,e=.returned (.pointer (some ⟨r,0,none⟩))/\cO w w' yb nv bB/\dE w0 w' yb vals ps fuel (ev fuel (x.pt []) (cu vals) st).2 bB/\dD w' (ev fuel (x.pt []) (cu vals) st).1 r
def DR (w0:World) (yb fuel:Nat) (x:KE) (vs:List Nat):Prop :=
 ∀ (b:Nat) (vals:List Vl) (ps:List Nat) (st:bY) (nv:Value) (w:World),eS w0 x b->dE w0 w yb vals ps fuel st nv->oN (cu vals) (xV vs)->vals.length=vs.length->sY fuel st->st.e=0->st.steps≠fuel ->
  Calls Tryz.prog 29 #[.pointer (some ⟨yb,0,none⟩),.pointer (some ⟨b,0,none⟩)] w fun e w'=>∃ r bB,e=.returned (.pointer (some ⟨r,0,none⟩))/\cO w w' yb nv bB/\dE w0 w' yb vals ps fuel (ev fuel (x.pt []) (cu vals) st).2 bB/\dD w' (ev fuel (x.pt []) (cu vals) st).1 r
theorem Gf {fuel:Nat} {st:bY} {f:bY->Vl × bY} (h:st.e≠0):begun fuel st f=(.n 0,st):=by unfold begun;rw [if_pos h]
theorem Gg {fuel:Nat} {st:bY} {f:bY->Vl × bY} (h0:st.e=0) (h:st.steps=fuel):begun fuel st f=(.n 0,{ st with e:=12 }):=by unfold begun;rw [if_neg (by simpa using h0),if_pos h]
theorem jy {fuel:Nat} {st:bY} {f:bY->Vl × bY} (h0:st.e=0) (h:st.steps≠fuel):begun fuel st f=f { st with steps:=st.steps+1 }:=by unfold begun;rw [if_neg (by simpa using h0),if_neg h]
theorem Kp (fuel:Nat) (t:PT) (env:dL):∃ f,∀ st,ev fuel t env st=begun fuel st f:=by
 cases t with
 | num p s=>exact ⟨_,fun st=>by unfold ev;rfl⟩
 | name p s=>exact ⟨_,fun st=>by unfold ev;rfl⟩
 | node p k nm rg kids=>exact ⟨_,fun st=>by unfold ev;rfl⟩
theorem sZ (w:World) (m:Nat) (p:Addr) (x:Value) (O:Obj):(((w.drewN m).setCell p x).alloc O).heap[w.heap.size]?=some O:=by
 have h:=aj ((w.drewN m).setCell p x) O
 have e:((w.drewN m).setCell p x).heap.size=w.heap.size:=by simp [World.setCell,World.drewN]
 rw [e] at h;exact h
def Ps:Obj:=.cells (Pr 0 (.pointer none) (.pointer none)) 29 (0,0)
theorem lq {w0:World} {yb fuel:Nat} {x:KE} {vs:List Nat} (h:DR w0 yb fuel x vs):Ko w0 yb fuel x vs:=by
 intro b vals ps st nv w hx hin aZ hlen hs
 obtain ⟨f,hf⟩:=Kp fuel (x.pt []) (cu vals)
 have y1:w.cell? ⟨yb,1,none⟩=some (.int .i64 fuel):=by rw [aa hin.ob.y];rfl
 have y2:w.cell? ⟨yb,2,none⟩=some (.int .i64 st.steps):=by rw [aa hin.ob.y];rfl
 have y4:w.cell? ⟨yb,4,none⟩=some (.bool (decide (st.e≠0))):=by rw [aa hin.ob.y];rfl
 have f4:w.frozen? ⟨yb,4,none⟩=false:=ag hin.ob.y 4
 have nP:=af hin.ob.y
 by_cases he:st.e=0
 ·by_cases hq:st.steps=fuel
  ·rw [hf,Gg he hq]
   have q1:((st.steps:Int) == (fuel:Int))=true:=by rw [hq];simp
   rw [show decide (st.e≠0)=false by simp [he]] at y4
   have hset:=fun m=>(hin.grow (cU w m)).set 4 (.bool true) (st':={ st with e:=12 }) rfl
   have Bc:Hid _:=hset
   clear hx hin aZ hs hset h hf he hq
   go_enter Tryz.func29,Tryz.ntmps29
   go_wp2
   go_quiet (fail)
   go_wp2
   go_ret
   exact ⟨_,nv,rfl,(cO.setAt w yb nv _ 4 _).trans (cO.below (bf (Below.refl _ _) Ps) _ _),(Bc.out _).grow (bf (Below.refl _ _) Ps),sZ w _ _ _ Ps⟩
  ·exact h b vals ps st nv w hx hin (aZ he) hlen hs he hq
 ·rw [hf,Gf he]
  rw [show decide (st.e≠0)=true by simp [he]] at y4
  have hset:=fun m=>(hin.grow (cU w m)).set 4 (.bool true) (st':=st) (by simp [dB,he])
  have Bc:Hid _:=hset
  clear hx hin aZ hs h hf he hset
  go_enter Tryz.func29,Tryz.ntmps29
  go_wp2
  go_quiet (fail)
  go_wp2
  go_ret
  exact ⟨_,nv,rfl,(cO.setAt w yb nv _ 4 _).trans (cO.below (bf (Below.refl _ _) Ps) _ _),(Bc.out _).grow (bf (Below.refl _ _) Ps),sZ w _ _ _ Ps⟩
structure DS (w:World) (b c:Nat) (k:Kw) (n:Nat) (ks:List Nat):Prop where
 hb:b < w.heap.size
 hg:c < w.heap.size
 c0:w.cell? ⟨b,0,none⟩=some (.string (bs k.bytes))
 c1:w.cell? ⟨b,1,none⟩=some (.int .i64 n)
 c2:w.cell? ⟨b,2,none⟩=some (.slice (some ⟨c,0,none⟩) ks.length ks.length)
 ck:∀ (j x:Nat),ks[j]?=some x->w.cell? ⟨c,j,none⟩=some (.pointer (some ⟨x,0,none⟩))
theorem DS.on {w0 w:World} {b c:Nat} {k:Kw} {n:Nat} {ks:List Nat} (h:DS w0 b c k n ks) (hw:Below w0.heap.size w0 w):DS w b c k n ks :=
 ⟨by have:=hw.size;have:=h.hb;omega,by have:=hw.size;have:=h.hg;omega,(hw.cell (p:=⟨b,0,none⟩) h.hb).trans h.c0,(hw.cell (p:=⟨b,1,none⟩) h.hb).trans h.c1,(hw.cell (p:=⟨b,2,none⟩) h.hb).trans h.c2,fun j x hj=>(hw.cell (p:=⟨c,j,none⟩) h.hg).trans (h.ck j x hj)⟩
theorem YF {w:World} {k:Kw} {a:KE} {b:Nat} (h:eS w (.n1 k a) b):∃ c pa,DS w b c k 0 [pa]/\eS w a pa:=by
 obtain ⟨c,pa,h1,h2,h3⟩:=h
 refine ⟨c,pa,⟨af h1,af h2,by rw [aa h1];rfl,by rw [aa h1];rfl,by rw [aa h1];rfl,fun j x hj=>?_⟩,h3⟩
 match j,hj with
 | 0,hj=>simp at hj;subst hj;rw [aa h2];rfl
 | j+1,hj=>simp at hj
theorem SH {w:World} {k:Kw} {n:Nat} {a d:KE} {b:Nat} (h:eS w (.n2 k n a d) b):∃ c pa pb,DS w b c k n [pa,pb]/\eS w a pa/\eS w d pb:=by
 obtain ⟨c,pa,pb,h1,h2,h3,h4⟩:=h
 refine ⟨c,pa,pb,⟨af h1,af h2,by rw [aa h1];rfl,by rw [aa h1];rfl,by rw [aa h1];rfl,fun j x hj=>?_⟩,h3,h4⟩
 match j,hj with
 | 0,hj=>simp at hj;subst hj;rw [aa h2];rfl
 | 1,hj=>simp at hj;subst hj;rw [aa h2];rfl
 | j+2,hj=>simp at hj
theorem SI {w:World} {k:Kw} {n:Nat} {a d f:KE} {b:Nat} (h:eS w (.n3 k n a d f) b):∃ c pa pb pd,DS w b c k n [pa,pb,pd]/\eS w a pa/\eS w d pb/\eS w f pd:=by
 obtain ⟨c,pa,pb,pd,h1,h2,h3,h4,h5⟩:=h
 refine ⟨c,pa,pb,pd,⟨af h1,af h2,by rw [aa h1];rfl,by rw [aa h1];rfl,by rw [aa h1];rfl,fun j x hj=>?_⟩,h3,h4,h5⟩
 match j,hj with
 | 0,hj=>simp at hj;subst hj;rw [aa h2];rfl
 | 1,hj=>simp at hj;subst hj;rw [aa h2];rfl
 | 2,hj=>simp at hj;subst hj;rw [aa h2];rfl
 | j+3,hj=>simp at hj
def Ra:Obj:=.cells #[.pointer none,.pointer none] 86 (0,0)
theorem dE.begin {w0 w:World} {yb:Nat} {vals:List Vl} {ps:List Nat} {fuel:Nat} {st:bY} {nv:Value} (h:dE w0 w yb vals ps fuel st nv) (m:Nat) :
  dE w0 (((w.drewN m).setCell ⟨yb,2,none⟩ (.int .i64 ((st.steps:Int)+1))).alloc Ra) yb vals ps fuel { st with steps:=st.steps+1 } nv/\cO w (((w.drewN m).setCell ⟨yb,2,none⟩ (.int .i64 ((st.steps:Int)+1))).alloc Ra) yb nv nv :=
 ⟨((h.grow (cU w m)).set 2 _ (by simp [dB])).grow (bf (Below.refl _ _) _),(cO.setAt w yb nv m 2 _).trans (cO.below (bf (Below.refl _ _) _) _ _)⟩
theorem Kq (w:World) (m:Nat) (p:Addr) (x:Value) (A O:Obj):((((w.drewN m).setCell p x).alloc A).alloc O).heap[w.heap.size+1]?=some O:=by
 have h:=aj (((w.drewN m).setCell p x).alloc A) O
 have e:(((w.drewN m).setCell p x).alloc A).heap.size=w.heap.size+1:=by simp [World.setCell,World.drewN]
 rw [e] at h;exact h
theorem Rb {w0:World} (yb fuel n:Nat) (vs:List Nat):DR w0 yb fuel (.num n) vs:=by
 intro b vals ps st nv w hx hin aZ hlen hs he hq
 have hx':w0.heap[b]?=some (.cells (uO [] n (.slice none 0 0)) 59 (0,0)):=hx
 have hb0:=af hx'
 have hne:b≠yb:=by have:=hin.ob.hyb;omega
 have hbx:=(hin.ob.b0.block b hb0).trans hx'
 have hb:=af hbx
 have x0:w.cell? ⟨b,0,none⟩=some (.string ⟨#[]⟩):=by rw [aa hbx];rfl
 have x1:w.cell? ⟨b,1,none⟩=some (.int .i64 n):=by rw [aa hbx];rfl
 have y1:w.cell? ⟨yb,1,none⟩=some (.int .i64 fuel):=by rw [aa hin.ob.y];rfl
 have y2:w.cell? ⟨yb,2,none⟩=some (.int .i64 st.steps):=by rw [aa hin.ob.y];rfl
 have y4:w.cell? ⟨yb,4,none⟩=some (.bool false):=by rw [aa hin.ob.y];simp [dB,he]
 have f2:w.frozen? ⟨yb,2,none⟩=false:=ag hin.ob.y 2
 have nP:=af hin.ob.y
 have q1:((st.steps:Int) == (fuel:Int))=false:=by rw [beq_eq_false_iff_ne];omega
 have zH:=hs.s
 have Su:=hs.f
 have qj:ev fuel ((KE.num n).pt []) (cu vals) st=(.n n,{ st with steps:=st.steps+1 }):=by
  simp only [KE.pt,ev];rw [jy he hq,jw];rfl
 rw [qj]
 have zI:Hid _:=fun m=>hin.begin m
 clear hx hx' hin aZ hlen hs he hq qj hbx
 go_enter Tryz.func29,Tryz.ntmps29
 go_wp2
 go_quiet (fail)
 go_wp2
 go_ret
 exact ⟨_,nv,rfl,(zI.out _).2.trans (cO.below (bf (Below.refl _ _) _) _ _),(zI.out _).1.grow (bf (Below.refl _ _) _),Kq w _ _ _ _ _⟩
theorem Rc {w0:World} (yb fuel n:Nat) (vs:List Nat) (hn:n < vs.length) (hvl:vs.length<=101):DR w0 yb fuel (.var n) vs:=by
 intro b vals ps st nv w hx hin aZ hlen hs he hq
 have hx':w0.heap[b]?=some (.cells (uO [120] n (.slice none 0 0)) 59 (0,0)):=hx
 have hb0:=af hx'
 have hne:b≠yb:=by have:=hin.ob.hyb;omega
 have hbx:=(hin.ob.b0.block b hb0).trans hx'
 have hb:=af hbx
 have x0:w.cell? ⟨b,0,none⟩=some (.string ⟨#[120]⟩):=by rw [aa hbx];rfl
 have x1:w.cell? ⟨b,1,none⟩=some (.int .i64 n):=by rw [aa hbx];rfl
 have y1:w.cell? ⟨yb,1,none⟩=some (.int .i64 fuel):=by rw [aa hin.ob.y];rfl
 have y2:w.cell? ⟨yb,2,none⟩=some (.int .i64 st.steps):=by rw [aa hin.ob.y];rfl
 have y4:w.cell? ⟨yb,4,none⟩=some (.bool false):=by rw [aa hin.ob.y];simp [dB,he]
 have f2:w.frozen? ⟨yb,2,none⟩=false:=ag hin.ob.y 2
 have nP:=af hin.ob.y
 have q1:((st.steps:Int) == (fuel:Int))=false:=by rw [beq_eq_false_iff_ne];omega
 have zH:=hs.s
 have Su:=hs.f
 have pG:=hlen ▸ hn
 have tu:n < ps.length:=by rw [hin.len];exact pG
 have qj:ev fuel ((KE.var n).pt []) (cu vals) st=(vals[n],{ st with steps:=st.steps+1 }):=by
  simp only [KE.pt,ev];rw [jy he hq,Kc vals n pG (by omega)]
 rw [qj]
 obtain ⟨na,nc,Kr,_,bt⟩:=hin.ob.shape
 rw [fA] at Kr bt
 obtain ⟨g,hg⟩:=bt (by omega)
 rw [hg] at Kr
 have y0:w.cell? ⟨yb,0,none⟩=some (.slice (some ⟨g,0,none⟩) ps.length nc):=by rw [aa hin.ob.y,<- Kr];rfl
 have hgc:w.cell? ⟨g,n,none⟩=some (.pointer (some ⟨ps[n],0,none⟩)):=by
  have ho:=hin.ob.n
  rw [Kr,fA] at ho
  rw [World.ownsRow.cellAt ho n (by omega)];unfold nH;rw [List.getElem?_map,List.getElem?_eq_getElem tu];rfl
 have hgl:g < w.heap.size:=World.block_lt_of_cell? _ _ hgc
 have SC:g≠yb:=by intro e;exact hin.ob.ny (by rw [Kr,e];rfl)
 have Ks:=hin.v n vals[n] ps[n] (List.getElem?_eq_getElem pG) (List.getElem?_eq_getElem tu)
 have zI:Hid _:=fun m=>hin.begin m
 have HOB:Hid _:=hin.ob
 have HKV:Hid _:=Ks
 generalize hpn:ps[n]=pn at *
 clear hx hx' hin aZ hlen hs he hq qj hbx Kr bt hg Ks hpn
 go_enter Tryz.func29,Tryz.ntmps29
 go_wp2
 go_quiet (fail)
 go_wp2
 go_quiet (fail)
 go_wp2
 go_ret
 exact ⟨_,nv,rfl,(zI.out _).2.trans (cO.below (cU _ _) _ _),(zI.out _).1.grow (cU _ _),(HKV.out.fr HOB.out (zI.out _).2).below (cU _ _)⟩
theorem Rd {rg:List UInt8}:∀ {vs:List Nat} {x:KE} {t:Nat},KT vs x t->(x.pt rg).bL:=by
 intro vs x t h
 have hb:∀ k n,(iO k n).length<=9000:=fun k n=>by unfold iO;split <;> simp [bG]
 induction h with
 | num h=>simp only [KE.pt,PT.bL];rw [jw];omega
 | var _=>simp [KE.pt,PT.bL,bG]
 | aT _ _ _ _ ha hd=>simp only [KE.pt,PT.bL,bI];exact ⟨hb _ _,ha,hd,trivial⟩
 | dQ _ _ _ ha hd hc=>simp only [KE.pt,PT.bL,bI];exact ⟨hb _ _,ha,hd,hc,trivial⟩
 | loop _ _ _ _ ha hd hc=>simp only [KE.pt,PT.bL,bI];exact ⟨hb _ _,ha,hd,hc,trivial⟩
 | pair _ _ _ _ ha hd=>simp only [KE.pt,PT.bL,bI];exact ⟨hb _ _,ha,hd,trivial⟩
 | fst _ _ _ ha=>simp only [KE.pt,PT.bL,bI];exact ⟨by simp,ha,trivial⟩
 | snd _ _ _ ha=>simp only [KE.pt,PT.bL,bI];exact ⟨by simp,ha,trivial⟩
 | two _ _ _ ha hd=>simp only [KE.pt,PT.bL,bI];exact ⟨hb _ _,ha,hd,trivial⟩
theorem NI {rg:List UInt8}:∀ {vs:List Nat} {x:KE} {t:Nat},KT vs x t->cS (x.pt rg):=by
 intro vs x t h
 induction h with
 | num _=>exact .num
 | var _=>exact .name
 | aT _ _ _ _ ha hd=>simp only [KE.pt];exact .node (by decide) (by intro y hy;simp only [List.mem_cons,List.not_mem_nil,or_false] at hy;rcases hy with rfl | rfl;exact ha;exact hd)
 | dQ _ _ _ ha hd hc=>simp only [KE.pt];exact .node (by decide) (by intro y hy;simp only [List.mem_cons,List.not_mem_nil,or_false] at hy;rcases hy with rfl | rfl | rfl;exact ha;exact hd;exact hc)
 | loop _ _ _ _ ha hd hc=>simp only [KE.pt];exact .node (by decide) (by intro y hy;simp only [List.mem_cons,List.not_mem_nil,or_false] at hy;rcases hy with rfl | rfl | rfl;exact ha;exact hd;exact hc)
 | pair _ _ _ _ ha hd=>simp only [KE.pt];exact .node (by decide) (by intro y hy;simp only [List.mem_cons,List.not_mem_nil,or_false] at hy;rcases hy with rfl | rfl;exact ha;exact hd)
 | fst _ _ _ ha=>simp only [KE.pt];exact .node (by decide) (by intro y hy;simp only [List.mem_cons,List.not_mem_nil,or_false] at hy;subst hy;exact ha)
 | snd _ _ _ ha=>simp only [KE.pt];exact .node (by decide) (by intro y hy;simp only [List.mem_cons,List.not_mem_nil,or_false] at hy;subst hy;exact ha)
 | two hk _ _ ha hd=>simp only [KE.pt];exact .node (by rcases hk with rfl | rfl | rfl <;> decide) (by intro y hy;simp only [List.mem_cons,List.not_mem_nil,or_false] at hy;rcases hy with rfl | rfl;exact ha;exact hd)
theorem kg {fuel:Nat} {vs:List Nat} {x:KE} {t:Nat} (h:KT vs x t) (hl:vs.length<=100) (vals:List Vl) (st:bY) (aZ:st.e=0->oN (cu vals) (xV vs)):Vj (tr t) st (ev fuel (x.pt []) (cu vals) st) :=
 Vk fuel (Ih h hl) (cu vals) st (Rd h) (NI h) aZ
theorem DT {st:bY} {r:Vl × bY} (h:Vj .n st r):∃ k,r.1=.n k/\k<=9999:=by
 by_cases e:r.2.e=0
 ·exact nB (h.1 e).2
 ·exact ⟨0,h.2 e,by omega⟩
theorem Re {w0:World} (yb fuel:Nat) (vs:List Nat) (a d:KE) (v:Nat) (iG:KT vs a v) (hvl:vs.length < 100) (aM:Ko w0 yb fuel a vs) (NJ:Ko w0 yb fuel d (vs++[v])):DR w0 yb fuel (.n2 .aT vs.length a d) vs:=by
 intro b vals ps st nv w hx hin aZ hlen hs he hq
 obtain ⟨c,pa,pd,eW,mr,rY⟩:=SH hx
 have hne:b≠yb:=by have:=hin.ob.hyb;have:=eW.hb;omega
 have SC:c≠yb:=by have:=hin.ob.hyb;have:=eW.hg;omega
 have qj:ev fuel ((KE.n2 .aT vs.length a d).pt []) (cu vals) st=ev fuel (d.pt []) (cu (vals++[(ev fuel (a.pt []) (cu vals) { st with steps:=st.steps+1 }).1])) (ev fuel (a.pt []) (cu vals) { st with steps:=st.steps+1 }).2:=by
  rw [kC,hlen]
  simp only [KE.pt]
  conv=>lhs;unfold ev
  rw [jy he hq];simp only [if_pos,iC];rfl
 rw [qj]
 have hs':=hs.step hq
 have hr1:=kg (fuel:=fuel) iG (by omega) vals { st with steps:=st.steps+1 } (fun _=>aZ)
 have h1:=fun m=>aM pa vals ps { st with steps:=st.steps+1 } nv _ mr (hin.begin m).1 (fun _=>aZ) hlen hs'
 have hs2:=hs'.on (a.pt []) (cu vals)
 generalize ev fuel (a.pt []) (cu vals) { st with steps:=st.steps+1 }=r1 at *
 have h2:=fun q cz w2 (bq:dE w0 w2 yb vals ps fuel r1.2 cz) (hq:dD w2 r1.1 q)=>SG pd q vals ps r1.1 r1.2 cz w2 (ev fuel (d.pt []) (cu (vals++[r1.1])) r1.2) (fun bB w' pT=>NJ pd (vals++[r1.1]) (ps++[q]) r1.2 bB w' rY pT (fun e=>by rw [kC,kB,hlen];exact aZ.snoc (hr1.1 e).2) (by simp [hlen]) hs2) bq hq (by omega)
 generalize ev fuel (d.pt []) (cu (vals++[r1.1])) r1.2=R at *
 have cG:=eW.on hin.ob.b0
 have x0:=cG.c0
 have x2:=cG.c2
 have YG:=cG.ck 0 pa rfl
 have Pt:=cG.hb
 have xl2:=cG.hg
 have q0:((bs Kw.aT.bytes).toList == [])=false:=by rw [aU];decide
 have q1:((bs Kw.aT.bytes).toList == [120])=false:=by rw [aU];decide
 have q2:((bs Kw.aT.bytes).toList == [108,101,116])=true:=by rw [aU];decide
 have y1:w.cell? ⟨yb,1,none⟩=some (.int .i64 fuel):=by rw [aa hin.ob.y];rfl
 have y2:w.cell? ⟨yb,2,none⟩=some (.int .i64 st.steps):=by rw [aa hin.ob.y];rfl
 have y4:w.cell? ⟨yb,4,none⟩=some (.bool false):=by rw [aa hin.ob.y];simp [dB,he]
 have f2:w.frozen? ⟨yb,2,none⟩=false:=ag hin.ob.y 2
 have nP:=af hin.ob.y
 have q9:((st.steps:Int) == (fuel:Int))=false:=by rw [beq_eq_false_iff_ne];omega
 have zH:=hs.s
 have Su:=hs.f
 have HK:Hid _:=eW
 have zI:Hid _:=fun m=>(hin.begin m).2
 have H1:Hid _:=h1
 have H2:Hid _:=h2
 clear eW cG hx hin aZ hs he qj hq mr rY aM NJ hs' hs2 hr1 h1 h2 hlen
 go_enter Tryz.func29,Tryz.ntmps29
 go_wp2_with fail
 go_quiet (fail)
 go_wp2_with fail
 refine Calls.mono (H1.out _) ?_
 rintro _ w2 ⟨r,cz,rfl,cW,bq,DU⟩
 have cG:=HK.out.on bq.ob.b0
 have z2:=cG.c2
 have zk1:=cG.ck 1 pd rfl
 have zl1:=cG.hb
 have zl2:=cG.hg
 have hc2:=H2.out r cz w2 bq DU
 have cx:Hid _:=(zI.out _).trans cW
 have wo:Hid _:=hc2
 clear cW bq DU cG hc2 HK H1 H2 zI x0 x2 YG y1 y2 y4 f2
 go_wp2_with fail
 refine Calls.mono wo.out ?_
 rintro _ w3 ⟨r3,BG,rfl,bQ,dZ,x8⟩
 have dK:Hid _:=cx.out.trans bQ
 have HI3:Hid _:=dZ
 have vf:Hid _:=x8
 clear bQ dZ x8 wo cx
 go_wp2
 go_ret
 exact ⟨r3,BG,rfl,dK.out,HI3.out,vf.out⟩
theorem Vm {w0:World} (yb fuel:Nat) (vs:List Nat) (a d f:KE) (iG:KT vs a 0) (hvl:vs.length<=100) (aM:Ko w0 yb fuel a vs) (NJ:Ko w0 yb fuel d vs) (YH:Ko w0 yb fuel f vs):DR w0 yb fuel (.n3 .dQ 0 a d f) vs:=by
 intro b vals ps st nv w hx hin aZ hlen hs he hq
 obtain ⟨c,pa,pd,pf,eW,mr,rY,NK⟩:=SI hx
 have hne:b≠yb:=by have:=hin.ob.hyb;have:=eW.hb;omega
 have SC:c≠yb:=by have:=hin.ob.hyb;have:=eW.hg;omega
 have qj:ev fuel ((KE.n3 .dQ 0 a d f).pt []) (cu vals) st=if (ev fuel (a.pt []) (cu vals) { st with steps:=st.steps+1 }).1.num≠0 then ev fuel (d.pt []) (cu vals) (ev fuel (a.pt []) (cu vals) { st with steps:=st.steps+1 }).2 else ev fuel (f.pt []) (cu vals) (ev fuel (a.pt []) (cu vals) { st with steps:=st.steps+1 }).2:=by
  simp only [KE.pt]
  conv=>lhs;unfold ev
  rw [jy he hq];simp only [reduceCtorEq,if_false,if_true,mD]
 rw [qj]
 have hs':=hs.step hq
 have hr1:=kg (fuel:=fuel) iG hvl vals { st with steps:=st.steps+1 } (fun _=>aZ)
 have h1:=fun m=>aM pa vals ps { st with steps:=st.steps+1 } nv _ mr (hin.begin m).1 (fun _=>aZ) hlen hs'
 have hs2:=hs'.on (a.pt []) (cu vals)
 generalize ev fuel (a.pt []) (cu vals) { st with steps:=st.steps+1 }=r1 at *
 have h2:=fun cz w2 (bq:dE w0 w2 yb vals ps fuel r1.2 cz)=>NJ pd vals ps r1.2 cz w2 rY bq (fun _=>aZ) hlen hs2
 have h3:=fun cz w2 (bq:dE w0 w2 yb vals ps fuel r1.2 cz)=>YH pf vals ps r1.2 cz w2 NK bq (fun _=>aZ) hlen hs2
 obtain ⟨k,hk,hk9⟩:=DT hr1
 obtain ⟨R,hR⟩:∃ R,R=if r1.1.num≠0 then ev fuel (d.pt []) (cu vals) r1.2 else ev fuel (f.pt []) (cu vals) r1.2:=⟨_,rfl⟩
 rw [<- hR]
 have HRz:k=0->R=ev fuel (f.pt []) (cu vals) r1.2:=fun h=>by rw [hR,hk];exact if_neg (fun g=>g h)
 have HRy:k≠0->R=ev fuel (d.pt []) (cu vals) r1.2:=fun h=>by rw [hR,hk];exact if_pos h
 have pO:∀ (w2:World) (r:Nat),dD w2 r1.1 r->r < w2.heap.size/\w2.cell? ⟨r,0,none⟩=some (.int .i64 k):=fun w2 r h=>by
  have:=h.num;rw [hk] at this;exact this
 have cG:=eW.on hin.ob.b0
 have x0:=cG.c0
 have x2:=cG.c2
 have YG:=cG.ck 0 pa rfl
 have Pt:=cG.hb
 have xl2:=cG.hg
 have q0:((bs Kw.dQ.bytes).toList == [])=false:=by rw [aU];decide
 have q1:((bs Kw.dQ.bytes).toList == [120])=false:=by rw [aU];decide
 have q2:((bs Kw.dQ.bytes).toList == [108,101,116])=false:=by rw [aU];decide
 have q3:((bs Kw.dQ.bytes).toList == [105,102])=true:=by rw [aU];decide
 have y1:w.cell? ⟨yb,1,none⟩=some (.int .i64 fuel):=by rw [aa hin.ob.y];rfl
 have y2:w.cell? ⟨yb,2,none⟩=some (.int .i64 st.steps):=by rw [aa hin.ob.y];rfl
 have y4:w.cell? ⟨yb,4,none⟩=some (.bool false):=by rw [aa hin.ob.y];simp [dB,he]
 have f2:w.frozen? ⟨yb,2,none⟩=false:=ag hin.ob.y 2
 have nP:=af hin.ob.y
 have q9:((st.steps:Int) == (fuel:Int))=false:=by rw [beq_eq_false_iff_ne];omega
 have zH:=hs.s
 have Su:=hs.f
 have HK:Hid _:=eW
 have zI:Hid _:=fun m=>(hin.begin m).2
 have H1:Hid _:=h1
 have H2:Hid _:=h2
 have H3:Hid _:=h3
 have yZ:Hid _:=pO
 clear eW cG hx hin aZ hs he qj hq mr rY NK aM NJ YH hs' hs2 hr1 h1 h2 h3 hk hR hlen pO
 go_enter Tryz.func29,Tryz.ntmps29
 go_wp2_with fail
 go_quiet (fail)
 go_wp2_with fail
 refine Calls.mono (H1.out _) ?_
 rintro _ w2 ⟨r,cz,rfl,cW,bq,DU⟩
 have cG:=HK.out.on bq.ob.b0
 have z2:=cG.c2
 have zk1:=cG.ck 1 pd rfl
 have zk2:=cG.ck 2 pf rfl
 have zl1:=cG.hb
 have zl2:=cG.hg
 obtain ⟨zr,zn⟩:=yZ.out w2 r DU
 have cx:Hid _:=(zI.out _).trans cW
 have wo:Hid _:=H2.out cz w2 bq
 have Jd:Hid _:=H3.out cz w2 bq
 clear cW bq DU cG HK H1 H2 H3 zI yZ x0 x2 YG y1 y2 y4 f2
 by_cases pX:k=0
 ·have qk:((k:Int) != 0)=false:=by subst pX;rfl
  have HR:Hid _:=HRz pX
  clear pX HRz HRy wo
  go_wp2_with fail
  refine Calls.mono Jd.out ?_
  rintro _ w3 ⟨r3,BG,rfl,bQ,dZ,x8⟩
  have dK:Hid _:=cx.out.trans bQ
  have HI3:Hid _:=dZ
  have vf:Hid _:=x8
  clear bQ dZ x8 Jd cx
  go_wp2
  go_ret
  rw [HR.out]
  exact ⟨r3,BG,rfl,dK.out,HI3.out,vf.out⟩
 ·have qk:((k:Int) != 0)=true:=by simp;omega
  have HR:Hid _:=HRy pX
  clear pX HRz HRy Jd
  go_wp2_with fail
  refine Calls.mono wo.out ?_
  rintro _ w3 ⟨r3,BG,rfl,bQ,dZ,x8⟩
  have dK:Hid _:=cx.out.trans bQ
  have HI3:Hid _:=dZ
  have vf:Hid _:=x8
  clear bQ dZ x8 wo cx
  go_wp2
  go_ret
  rw [HR.out]
  exact ⟨r3,BG,rfl,dK.out,HI3.out,vf.out⟩
theorem DV (f:Vl->bY->Vl × bY) (v:Vl) (st:bY):turns f 0 v st=(v,st):=rfl
theorem DW (f:Vl->bY->Vl × bY) (k:Nat) (v:Vl) (st:bY) (h:st.e=0):turns f (k+1) v st=turns f k (f v st).1 (f v st).2:=by simp only [turns];rw [if_neg (by simpa using h)]
theorem Gh (f:Vl->bY->Vl × bY) (k:Nat) (v:Vl) (st:bY) (h:st.e≠0):turns f k v st=(v,st):=by
 cases k with
 | zero=>rfl
 | succ k=>simp only [turns];rw [if_pos h]
theorem NL {w0:World} (yb fuel:Nat) (vs:List Nat) (a d f:KE) (t:Nat) (iG:KT vs a 0) (htd:KT vs d t) (htf:KT (vs++[t]) f t) (hvl:vs.length < 100) (aM:Ko w0 yb fuel a vs) (NJ:Ko w0 yb fuel d vs) (YH:Ko w0 yb fuel f (vs++[t])):DR w0 yb fuel (.n3 .loop vs.length a d f) vs:=by
 intro b vals ps st nv w hx hin aZ hlen hs he hq
 obtain ⟨c,pa,pd,pf,eW,mr,rY,NK⟩:=SI hx
 have hne:b≠yb:=by have:=hin.ob.hyb;have:=eW.hb;omega
 have SC:c≠yb:=by have:=hin.ob.hyb;have:=eW.hg;omega
 obtain ⟨F,hF⟩:∃ F:Vl->bY->Vl × bY,F=fun v st=>ev fuel (f.pt []) (cu (vals++[v])) st:=⟨_,rfl⟩
 have qj:ev fuel ((KE.n3 .loop vs.length a d f).pt []) (cu vals) st=turns F (ev fuel (a.pt []) (cu vals) { st with steps:=st.steps+1 }).1.num (ev fuel (d.pt []) (cu vals) (ev fuel (a.pt []) (cu vals) { st with steps:=st.steps+1 }).2).1 (ev fuel (d.pt []) (cu vals) (ev fuel (a.pt []) (cu vals) { st with steps:=st.steps+1 }).2).2:=by
  rw [hF]
  simp only [kC,hlen]
  simp only [KE.pt]
  conv=>lhs;unfold ev
  rw [jy he hq];simp only [reduceCtorEq,if_false,if_true,ez];rfl
 rw [qj]
 have hs':=hs.step hq
 have hr1:=kg (fuel:=fuel) iG (by omega) vals { st with steps:=st.steps+1 } (fun _=>aZ)
 have h1:=fun m=>aM pa vals ps { st with steps:=st.steps+1 } nv _ mr (hin.begin m).1 (fun _=>aZ) hlen hs'
 have hs2:=hs'.on (a.pt []) (cu vals)
 generalize ev fuel (a.pt []) (cu vals) { st with steps:=st.steps+1 }=r1 at *
 have eH:=kg (fuel:=fuel) htd (by omega) vals r1.2 (fun _=>aZ)
 have h2:=fun cz w2 (bq:dE w0 w2 yb vals ps fuel r1.2 cz)=>NJ pd vals ps r1.2 cz w2 rY bq (fun _=>aZ) hlen hs2
 have hs3:=hs2.on (d.pt []) (cu vals)
 generalize ev fuel (d.pt []) (cu vals) r1.2=r2 at *
 obtain ⟨k,hk,hk9⟩:=DT hr1
 have h3:∀ (v:Vl) (q:Nat) (E2:bY) (cz:Value) (w2:World),(E2.e=0->v.has (tr t))->sY fuel E2->dE w0 w2 yb vals ps fuel E2 cz->dD w2 v q ->
   Calls Tryz.prog 49 #[.pointer (some ⟨yb,0,none⟩),.pointer (some ⟨q,0,none⟩),.pointer (some ⟨pf,0,none⟩)] w2 fun e w'=>∃ r bB,e=.returned (.pointer (some ⟨r,0,none⟩))/\cO w2 w' yb cz bB/\dE w0 w' yb vals ps fuel (F v E2).2 bB/\dD w' (F v E2).1 r:=by
  intro v q E2 cz w2 hv Fk bq O9
  rw [hF]
  exact SG pf q vals ps v E2 cz w2 _ (fun bB w' pT=>YH pf (vals++[v]) (ps++[q]) E2 bB w' NK pT (fun e=>by rw [kC,kB,hlen];exact aZ.snoc (hv e)) (by simp [hlen]) Fk) bq O9 (by omega)
 have h4:∀ (v:Vl) (E2:bY),(E2.e=0->v.has (tr t))->sY fuel E2->((F v E2).2.e=0->(F v E2).1.has (tr t))/\sY fuel (F v E2).2:=by
  intro v E2 hv Fk
  rw [hF]
  exact ⟨fun e=>((kg (fuel:=fuel) htf (by simp;omega) (vals++[v]) E2 (fun e=>by rw [kC,kB,hlen];exact aZ.snoc (hv e))).1 e).2,Fk.on _ _⟩
 have pO:∀ (w2:World) (r:Nat),dD w2 r1.1 r->r < w2.heap.size/\w2.cell? ⟨r,0,none⟩=some (.int .i64 k):=fun w2 r h=>by
  have:=h.num;rw [hk] at this;exact this
 have hkn:r1.1.num=k:=by rw [hk];rfl
 rw [hkn]
 have cG:=eW.on hin.ob.b0
 have x0:=cG.c0
 have x2:=cG.c2
 have YG:=cG.ck 0 pa rfl
 have Pt:=cG.hb
 have xl2:=cG.hg
 have q0:((bs Kw.loop.bytes).toList == [])=false:=by rw [aU];decide
 have q1:((bs Kw.loop.bytes).toList == [120])=false:=by rw [aU];decide
 have q2:((bs Kw.loop.bytes).toList == [108,101,116])=false:=by rw [aU];decide
 have q3:((bs Kw.loop.bytes).toList == [105,102])=false:=by rw [aU];decide
 have q4:((bs Kw.loop.bytes).toList == [108,111,111,112])=true:=by rw [aU];decide
 have y1:w.cell? ⟨yb,1,none⟩=some (.int .i64 fuel):=by rw [aa hin.ob.y];rfl
 have y2:w.cell? ⟨yb,2,none⟩=some (.int .i64 st.steps):=by rw [aa hin.ob.y];rfl
 have y4:w.cell? ⟨yb,4,none⟩=some (.bool false):=by rw [aa hin.ob.y];simp [dB,he]
 have f2:w.frozen? ⟨yb,2,none⟩=false:=ag hin.ob.y 2
 have nP:=af hin.ob.y
 have q9:((st.steps:Int) == (fuel:Int))=false:=by rw [beq_eq_false_iff_ne];omega
 have zH:=hs.s
 have Su:=hs.f
 have Jw:Hid (r2.2.e=0->r2.1.has (tr t)):=fun e=>(eH.1 e).2
 have K5:Hid _:=hs3
 have HK:Hid _:=eW
 have zI:Hid _:=fun m=>(hin.begin m).2
 have H1:Hid _:=h1
 have H2:Hid _:=h2
 have H3:Hid _:=h3
 have H4:Hid _:=h4
 have yZ:Hid _:=pO
 clear eW cG hx hin aZ hs he qj hq mr rY NK aM NJ YH hs' hs2 hs3 hr1 eH h1 h2 h3 h4 hk hkn hlen pO hF
 go_enter Tryz.func29,Tryz.ntmps29
 go_wp2_with fail
 go_quiet (fail)
 go_wp2_with fail
 refine Calls.mono (H1.out _) ?_
 rintro _ w2 ⟨rn,cz,rfl,cW,bq,DU⟩
 have cG:=HK.out.on bq.ob.b0
 have z2:=cG.c2
 have zk1:=cG.ck 1 pd rfl
 have zl1:=cG.hb
 have zl2:=cG.hg
 have cx:Hid _:=(zI.out _).trans cW
 have wo:Hid _:=H2.out cz w2 bq
 have HI2:Hid _:=bq.ob
 have YA:Hid _:=DU
 clear cW bq DU cG H1 H2 zI x0 x2 YG y1 y2 y4 f2
 go_wp2_with fail
 refine Calls.mono wo.out ?_
 rintro _ w3 ⟨r3,BG,rfl,bQ,dZ,x8⟩
 have aaW:Hid _:=YA.out.fr HI2.out bQ
 have dK:Hid _:=cx.out.trans bQ
 have HI3:Hid _:=dZ
 have vf:Hid _:=x8
 clear bQ dZ x8 wo cx HI2 YA z2 zk1
 go_wp2_with fail
 go_loopw [9,10] (fun vv i wr=>∃ (j:Nat) (v:Vl) (r:Nat) (Az:bY) (gK:Value),j<=k/\i=.int .i64 j/\vv=.pointer (some ⟨r,0,none⟩)/\dD wr v r/\turns F k r2.1 r2.2=turns F (k - j) v Az/\(Az.e=0->v.has (tr t))/\sY fuel Az/\cO w wr yb nv gK/\dE w0 wr yb vals ps fuel Az gK/\dD wr r1.1 rn) (fun _ i _=>k - (intOf i).toNat)
 case atStart=>exact ⟨0,r2.1,r3,r2.2,BG,by omega,rfl,rfl,vf.out,rfl,Jw.out,K5.out,dK.out,HI3.out,aaW.out⟩
 case round =>
  obtain ⟨j,v,r,Az,gK,hj,rfl,rfl,Ks,htu,hv,Fk,ij,bT,NM⟩:=hrel
  have e4:wr.cell? ⟨yb,4,none⟩=some (.bool (decide (Az.e≠0))):=by rw [aa bT.ob.y];rfl
  have U4:=af bT.ob.y
  obtain ⟨zr,zn⟩:=yZ.out wr rn NM
  have cG:=HK.out.on bT.ob.b0
  have u2:=cG.c2
  have uk2:=cG.ck 2 pf rfl
  have YI:=cG.hb
  have YJ:=cG.hg
  have HTU:Hid _:=htu
  have jG:Hid _:=ij
  have HI4:Hid _:=bT
  have HKV:Hid _:=Ks
  by_cases hj0:j=k
  ·have HE:Hid _:=DV F v Az
   have hjk:¬ j < k:=by omega
   have aaX:Hid (turns F k r2.1 r2.2=turns F 0 v Az):=by
    show _=_
    rw [HTU.out,hj0,Nat.sub_self]
   subst hj0
   clear htu ij bT cG hv Fk NM Ks
   go_wp2
   go_ret
   rw [aaX.out,HE.out]
   exact ⟨r,gK,rfl,jG.out,HI4.out,HKV.out⟩
  ·have abR:j < k:=by omega
   by_cases Ws:Az.e=0
   ·rw [show decide (Az.e≠0)=false by simp [Ws]] at e4
    obtain ⟨i,hi⟩:∃ i,k - j=i+1:=⟨k - j - 1,by omega⟩
    have h4:=H4.out v Az hv Fk
    have HE:Hid (turns F (k - j) v Az=turns F (k - (j+1)) (F v Az).1 (F v Az).2):=by
     show _=_
     rw [hi,DW F i v Az Ws,show k - (j+1)=i by omega]
    have H5:Hid _:=h4
    have HC:Hid _:=H3.out v r Az gK wr hv Fk bT Ks
    have aaY:Hid _:=NM
    clear htu ij bT cG hv Fk h4 Ws NM Ks hi
    go_wp2_with fail
    refine Calls.mono HC.out ?_
    rintro _ w5 ⟨r5,FM,rfl,oz,mU,YK⟩
    have fS:Hid _:=jG.out.trans oz
    have iZ:Hid _:=mU
    have Ie:Hid _:=YK
    have HN5:Hid _:=aaY.out.fr HI4.out.ob oz
    clear oz mU YK HC
    go_wp2
    go_roundw
    case rel=>exact ⟨j+1,(F v Az).1,r5,(F v Az).2,FM,by omega,by go_num,rfl,Ie.out,by rw [HTU.out,HE.out],H5.out.1,H5.out.2,fS.out,iZ.out,HN5.out⟩
    case measure=>simp [intOf];omega
   ·rw [show decide (Az.e≠0)=true by simp [Ws]] at e4
    have HE:Hid _:=Gh F (k - j) v Az Ws
    clear htu ij bT cG hv Fk Ws NM Ks
    go_wp2
    go_ret
    rw [HTU.out,HE.out]
    exact ⟨r,gK,rfl,jG.out,HI4.out,HKV.out⟩
def DX (w0:World) (yb fuel:Nat) (k:Kw) (A B:Ty):Prop :=
 ∀ (b c n:Nat) (ks:List Nat) (vals:List Vl) (ps:List Nat) (st:bY) (nv:Value) (w:World) (x y:Vl) (px py:Nat),DS w0 b c k n ks->dE w0 w yb vals ps fuel st nv->sY fuel st->x.has A->y.has B->dD w x px->dD w y py ->
  Calls Tryz.prog 50 #[.pointer (some ⟨yb,0,none⟩),.pointer (some ⟨b,0,none⟩),.pointer (some ⟨px,0,none⟩),.pointer (some ⟨py,0,none⟩)] w fun e w'=>∃ r,e=.returned (.pointer (some ⟨r,0,none⟩))/\cO w w' yb nv nv/\dE w0 w' yb vals ps fuel (cA k [x,y] st).2 nv/\dD w' (cA k [x,y] st).1 r
def NN (w0:World) (yb fuel:Nat) (k:Kw) (A:Ty):Prop :=
 ∀ (b c n:Nat) (ks:List Nat) (vals:List Vl) (ps:List Nat) (st:bY) (nv:Value) (w:World) (x:Vl) (px:Nat),DS w0 b c k n ks->dE w0 w yb vals ps fuel st nv->x.has A->dD w x px ->
  Calls Tryz.prog 50 #[.pointer (some ⟨yb,0,none⟩),.pointer (some ⟨b,0,none⟩),.pointer (some ⟨px,0,none⟩),.pointer none] w fun e w'=>∃ r,e=.returned (.pointer (some ⟨r,0,none⟩))/\cO w w' yb nv nv/\dE w0 w' yb vals ps fuel (cA k [x] st).2 nv/\dD w' (cA k [x] st).1 r
theorem DY {W w:World} {b:Nat} (h:Below b W w):Below b W w.drew:=h.trans ⟨rfl,rfl,rfl,Nat.le_refl _,fun _ _=>rfl⟩
theorem Gi {w0:World} (yb fuel:Nat) (A B:Ty):DX w0 yb fuel .pair A B:=by
 intro b c n ks vals ps st nv w x y px py eW hin hs _ _ Gj NT
 have hne:b≠yb:=by have:=hin.ob.hyb;have:=eW.hb;omega
 have cG:=eW.on hin.ob.b0
 have x0:=cG.c0
 have Pt:=cG.hb
 have y3:w.cell? ⟨yb,3,none⟩=some (.int .i64 st.cells):=by rw [aa hin.ob.y];rfl
 have f3:w.frozen? ⟨yb,3,none⟩=false:=ag hin.ob.y 3
 have nP:=af hin.ob.y
 have q0:((bs Kw.pair.bytes).toList == [112,97,105,114])=true:=by rw [aU];decide
 have hcs:=hs.c
 have zH:=hs.s
 have Su:=hs.f
 have hset:=hin.set 3 (.int .i64 ((st.cells:Int)+1)) (st':={ st with cells:=st.cells+1 }) (by simp [dB])
 have hfr:=cO.xO w yb nv 3 (.int .i64 ((st.cells:Int)+1))
 have Vn:=Gj.fr hin.ob hfr
 have Vo:=NT.fr hin.ob hfr
 have hsz:(w.setCell ⟨yb,3,none⟩ (.int .i64 ((st.cells:Int)+1))).heap.size=w.heap.size:=by simp [World.setCell]
 have hm:cA .pair [x,y] st=(.p x y,{ st with cells:=st.cells+1 }):=rfl
 rw [hm]
 obtain ⟨W,hW⟩:∃ W,W=w.setCell ⟨yb,3,none⟩ (.int .i64 ((st.cells:Int)+1)):=⟨_,rfl⟩
 rw [<- hW] at hset hfr Vn Vo hsz
 have Bc:Hid _:=hset
 have qI:Hid _:=hfr
 have HX:Hid _:=Vn
 have HY:Hid _:=Vo
 have Tq:Hid _:=hsz
 have HW:Hid _:=hW
 clear eW cG hin hs Gj NT hset hfr Vn Vo hsz hm hW
 go_enter Tryz.func50,Tryz.ntmps50
 go_wp2
 go_ret
 rw [<- HW.out]
 have qA:=bf (Below.refl _ W) (.cells (Pr 0 (.pointer (some ⟨px,0,none⟩)) (.pointer (some ⟨py,0,none⟩))) 29 (0,0))
 refine ⟨w.heap.size,rfl,qI.out.trans (cO.below qA _ _),Bc.out.grow qA,px,py,?_,HX.out.below qA,HY.out.below qA⟩
 rw [<- Tq.out];exact aj _ _
theorem Kt {w0:World} (yb fuel:Nat) (r0:Nat) (A B:Ty):NN w0 yb fuel .fst (.p r0 A B):=by
 intro b c n ks vals ps st nv w x px eW hin hx Gj
 obtain ⟨u,v,rfl⟩:∃ u v,x=.p u v:=by
  cases x with
  | n k=>exact hx.elim
  | p u v=>exact ⟨u,v,rfl⟩
 obtain ⟨pu,pv,h1,h2,h3⟩:=Gj
 have cG:=eW.on hin.ob.b0
 have x0:=cG.c0
 have Pt:=cG.hb
 have p1:w.cell? ⟨px,1,none⟩=some (.pointer (some ⟨pu,0,none⟩)):=by rw [aa h1];rfl
 have pl:=af h1
 have q0:((bs Kw.fst.bytes).toList == [112,97,105,114])=false:=by rw [aU];decide
 have q1:((bs Kw.fst.bytes).toList == [102,115,116])=true:=by rw [aU];decide
 have mq:Hid _:=hin
 have HU:Hid _:=h2
 have hm:cA .fst [.p u v] st=(u,st):=rfl
 rw [hm]
 clear eW cG hin hx h1 h2 h3 hm
 go_enter Tryz.func50,Tryz.ntmps50
 go_wp2
 go_ret
 exact ⟨pu,rfl,cO.refl _ _ _,mq.out,HU.out⟩
theorem Ku {w0:World} (yb fuel:Nat) (r0:Nat) (A B:Ty):NN w0 yb fuel .snd (.p r0 A B):=by
 intro b c n ks vals ps st nv w x px eW hin hx Gj
 obtain ⟨u,v,rfl⟩:∃ u v,x=.p u v:=by
  cases x with
  | n k=>exact hx.elim
  | p u v=>exact ⟨u,v,rfl⟩
 obtain ⟨pu,pv,h1,h2,h3⟩:=Gj
 have cG:=eW.on hin.ob.b0
 have x0:=cG.c0
 have Pt:=cG.hb
 have p2:w.cell? ⟨px,2,none⟩=some (.pointer (some ⟨pv,0,none⟩)):=by rw [aa h1];rfl
 have pl:=af h1
 have q0:((bs Kw.snd.bytes).toList == [112,97,105,114])=false:=by rw [aU];decide
 have q1:((bs Kw.snd.bytes).toList == [102,115,116])=false:=by rw [aU];decide
 have q2:((bs Kw.snd.bytes).toList == [115,110,100])=true:=by rw [aU];decide
 have mq:Hid _:=hin
 have HU:Hid _:=h3
 have hm:cA .snd [.p u v] st=(v,st):=rfl
 rw [hm]
 clear eW cG hin hx h1 h2 h3 hm
 go_enter Tryz.func50,Tryz.ntmps50
 go_wp2
 go_ret
 exact ⟨pv,rfl,cO.refl _ _ _,mq.out,HU.out⟩
theorem Kv {w0:World} (yb fuel:Nat):DX w0 yb fuel .add .n .n:=by
 intro b c n ks vals ps st nv w x y px py eW hin _ hx hy Gj NT
 obtain ⟨i,rfl,hi⟩:=nB hx
 obtain ⟨j,rfl,hj⟩:=nB hy
 obtain ⟨pl,p0⟩:=Gj.num
 obtain ⟨pl',YL⟩:=NT.num
 simp only [Vl.num] at p0 YL
 have cG:=eW.on hin.ob.b0
 have x0:=cG.c0
 have Pt:=cG.hb
 have q0:((bs Kw.add.bytes).toList == [112,97,105,114])=false:=by rw [aU];decide
 have q1:((bs Kw.add.bytes).toList == [102,115,116])=false:=by rw [aU];decide
 have q2:((bs Kw.add.bytes).toList == [115,110,100])=false:=by rw [aU];decide
 have q3:((bs Kw.add.bytes).toList == [97,100,100])=true:=by rw [aU];decide
 have em:((i:Int)+(j:Int)) % 10000=(((i+j) % 10000:Nat):Int):=by omega
 have hm:cA .add [.n i,.n j] st=(.n ((i+j) % 10000),st):=rfl
 rw [hm]
 have mq:Hid _:=hin
 clear eW cG hin hx hy Gj NT hm
 generalize (i+j) % 10000=s at *
 go_enter Tryz.func50,Tryz.ntmps50
 go_wp2
 go_region
 all_goals
  go_wp2
  go_ret
  have qA:=DY (bf (Below.refl _ w) (.cells (Pr s (.pointer none) (.pointer none)) 29 (0,0)))
  exact ⟨w.heap.size,rfl,cO.below qA _ _,mq.out.grow qA,aj w _⟩
theorem Kx {w0:World} (yb fuel:Nat):DX w0 yb fuel .sub .n .n:=by
 intro b c n ks vals ps st nv w x y px py eW hin _ hx hy Gj NT
 obtain ⟨i,rfl,hi⟩:=nB hx
 obtain ⟨j,rfl,hj⟩:=nB hy
 obtain ⟨pl,p0⟩:=Gj.num
 obtain ⟨pl',YL⟩:=NT.num
 simp only [Vl.num] at p0 YL
 have cG:=eW.on hin.ob.b0
 have x0:=cG.c0
 have Pt:=cG.hb
 have q0:((bs Kw.sub.bytes).toList == [112,97,105,114])=false:=by rw [aU];decide
 have q1:((bs Kw.sub.bytes).toList == [102,115,116])=false:=by rw [aU];decide
 have q2:((bs Kw.sub.bytes).toList == [115,110,100])=false:=by rw [aU];decide
 have q3:((bs Kw.sub.bytes).toList == [97,100,100])=false:=by rw [aU];decide
 have q4:((bs Kw.sub.bytes).toList == [115,117,98])=true:=by rw [aU];decide
 have em:((i:Int)+10000 - (j:Int)) % 10000=(((i+10000 - j) % 10000:Nat):Int):=by omega
 have hm:cA .sub [.n i,.n j] st=(.n ((i+10000 - j) % 10000),st):=rfl
 rw [hm]
 have mq:Hid _:=hin
 clear eW cG hin hx hy Gj NT hm
 generalize (i+10000 - j) % 10000=s at *
 go_enter Tryz.func50,Tryz.ntmps50
 go_wp2
 go_region
 all_goals
  go_wp2
  go_ret
  have qA:=DY (bf (Below.refl _ w) (.cells (Pr s (.pointer none) (.pointer none)) 29 (0,0)))
  exact ⟨w.heap.size,rfl,cO.below qA _ _,mq.out.grow qA,aj w _⟩
theorem Gk {w0:World} (yb fuel:Nat):DX w0 yb fuel .less .n .n:=by
 intro b c n ks vals ps st nv w x y px py eW hin _ hx hy Gj NT
 obtain ⟨i,rfl,hi⟩:=nB hx
 obtain ⟨j,rfl,hj⟩:=nB hy
 obtain ⟨pl,p0⟩:=Gj.num
 obtain ⟨pl',YL⟩:=NT.num
 simp only [Vl.num] at p0 YL
 have cG:=eW.on hin.ob.b0
 have x0:=cG.c0
 have Pt:=cG.hb
 have q0:((bs Kw.less.bytes).toList == [112,97,105,114])=false:=by rw [aU];decide
 have q1:((bs Kw.less.bytes).toList == [102,115,116])=false:=by rw [aU];decide
 have q2:((bs Kw.less.bytes).toList == [115,110,100])=false:=by rw [aU];decide
 have q3:((bs Kw.less.bytes).toList == [97,100,100])=false:=by rw [aU];decide
 have q4:((bs Kw.less.bytes).toList == [115,117,98])=false:=by rw [aU];decide
 have hm:cA .less [.n i,.n j] st=(.n (if i < j then 1 else 0),st):=rfl
 rw [hm]
 have mq:Hid _:=hin
 clear eW cG hin hx hy Gj NT hm
 by_cases hij:i < j
 ·rw [if_pos hij]
  go_enter Tryz.func50,Tryz.ntmps50
  go_wp2
  go_quiet (fail)
  go_wp2
  go_ret
  have qA:=bf (cU w nq) (.cells (Pr 1 (.pointer none) (.pointer none)) 29 (0,0))
  exact ⟨w.heap.size,rfl,cO.below qA _ _,mq.out.grow qA,aj (w.drewN nq) _⟩
 ·rw [if_neg hij]
  go_enter Tryz.func50,Tryz.ntmps50
  go_wp2
  go_quiet (fail)
  go_wp2
  go_ret
  have qA:=bf (cU w nq) (.cells (Pr 0 (.pointer none) (.pointer none)) 29 (0,0))
  exact ⟨w.heap.size,rfl,cO.below qA _ _,mq.out.grow qA,aj (w.drewN nq) _⟩
end Go.Proofs.YtpicaknklgccoabGreatDoor
