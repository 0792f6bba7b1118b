import Derived.Test.YtpicaknklgccoabGreatDoorS23
set_option maxHeartbeats 4000000
set_option maxRecDepth 100000
namespace Go.Proofs.YtpicaknklgccoabGreatDoor
open Go.RowKit
theorem ME (mb B:Nat) (x1:Option Addr) (n1 c1:Nat) (x2:Option Addr) (n2 c2:Nat) (fuel:Nat) (ns:List NR) (op:List Int) (i:Nat) (n:NR) (hn:ns[i]?=some n) (hform:n.form=12) (c:Nat) (g:MM->MV × MM)
  (hg:∀ (w:World) (nv cv rv:Value) (m:MM),ja mb B w (.slice x1 n1 c1) (.slice x2 n2 c2) fuel nv cv rv m ns op c->Calls Tryz.prog 88 #[ptr mb,aI n] w (fY mb w (.slice x1 n1 c1) (.slice x2 n2 c2) fuel nv cv rv (g m)))
  (w:World) (nv cv rv:Value) (m:MM) (h:ja mb B w (.slice x1 n1 c1) (.slice x2 n2 c2) fuel nv cv rv m ns op c) :
  Calls Tryz.prog 68 #[ptr mb,.int .i64 i] w (fY mb w (.slice x1 n1 c1) (.slice x2 n2 c2) fuel nv cv rv (g m)):=by
 obtain ⟨R,hR⟩:∃ R:Obj,R=.cells #[.bool false,.int .i64 0] 122:=⟨_,rfl⟩
 have hW1:Below w.heap.size w (w.alloc R):=aE (Below.refl _ _) _
 have hno:=ew (w.alloc R) (.slice x1 n1 c1) (.slice x2 n2 c2) ns op (h.env.tree _ (hW1.mono h.env.s)) i n hn h.env.len
 have kX:Beside mb w.heap.size (w.alloc R) nv cv rv (.cells #[.bool false,.int .i64 0] 122):=Beside.new h.i (by rw [hR];exact aj w _) (Nat.le_refl _)
 have h1:=h.below hW1
 have dV:Hid (bz mb mb w (w.alloc R) nv cv rv nv cv rv):=bz.below mb mb nv cv rv hW1
 have H1:Hid _:=h1
 have jR:Hid _:=kX
 have HG:Hid _:=hg
 have y0:w.cell? ⟨mb,0,none⟩=some (.slice x1 n1 c1):=by rw [aa h.i.y];rfl
 have y1:w.cell? ⟨mb,1,none⟩=some (.slice x2 n2 c2):=by rw [aa h.i.y];rfl
 have nR:=af h.i.y
 have uL:Hid _:=hform
 have lN:i<=9000:=by have:=(List.getElem?_eq_some_iff.1 hn).1;have:=h.env.len;omega
 have Mw:((n.form:Int) == 12)=true:=mZ (b:=12) hform
 clear hW1 kX h1 h hg hn hform
 unfold aJ aI at hno
 unfold ptr
 go_enter Tryz.func68,Tryz.ntmps68
 subst hR
 go_wp2_with fail
 refine Calls.mono hno ?_
 rintro _ w2 ⟨rfl,hb2⟩
 obtain ⟨W3,iv⟩:∃ W3,W3=w2.alloc (.cells #[.int .i64 n.form,.int .i64 n.at_,.int .i64 n.aR,.int .i64 n.num,.string (bs n.word),.int .i64 n.region,.int .i64 n.source,.int .i64 n.p0,.int .i64 n.p1,.int .i64 n.p2] 108):=⟨_,rfl⟩
 have hb3:Below (w.alloc (.cells #[.bool false,.int .i64 0] 122)).heap.size (w.alloc (.cells #[.bool false,.int .i64 0] 122)) W3:=by rw [iv];exact hb2.alloc hb2.size _
 have h3:=H1.out.below hb3
 have hf3:bz mb mb (w.alloc (.cells #[.bool false,.int .i64 0] 122)) W3 nv cv rv nv cv rv:=bz.below mb mb nv cv rv hb3
 have hk:=HG.out W3 nv cv rv m h3
 have HK:Hid _:=hk
 have dK:Hid _:=dV.out.trans hf3
 have eI:Hid _:=jR.out.keep hf3
 clear hb2 hb3 h3 hf3 hk H1 dV jR HG hno y0 y1
 unfold ptr aI at HK
 go_wp2_with fail
 rw [<- iv]
 refine Calls.mono HK.out ?_
 rintro _ w5 ⟨rfl,FM,cv5,rv5,eG,nS⟩
 have fS:Hid _:=dK.out.trans eG
 have iZ:Hid _:=nS
 have aG:=eI.out.keep eG
 have dq:Hid _:=aG
 have fV:w.heap.size<=w.heap.size:=Nat.le_refl _
 have x0:w5.cell? ⟨w.heap.size,0,none⟩=some (.bool false):=by rw [aa aG.b];rfl
 have x1:w5.cell? ⟨w.heap.size,1,none⟩=some (.int .i64 0):=by rw [aa aG.b];rfl
 have g0:w5.frozen? ⟨w.heap.size,0,none⟩=false:=ag aG.b 0
 have g1:w5.frozen? ⟨w.heap.size,1,none⟩=false:=ag aG.b 1
 have Bl:=af aG.b
 clear eG nS aG HK dK eI iv nR
 generalize g m=res at *
 unfold lG
 go_wp2
 have aV:=dq.out
 have jB:=(iZ.out.beside aV.ne aV.n aV.c aV.r 0 (.bool res.1.c)).beside aV.ne aV.n aV.c aV.r 1 (.int .i64 res.1.n)
 have iK:=(fS.out.upto (aw (aw (Below.refl _ _) ⟨w.heap.size,0,none⟩ fV (.bool res.1.c)) ⟨w.heap.size,1,none⟩ fV (.int .i64 res.1.n)))
 refine bodyPost_ret (v:=.agg #[.bool res.1.c,.int .i64 res.1.n]) (by simp [results,Tryz.results68,go_sem,x0,x1]) rfl ⟨rfl,_,_,_,iK,jB⟩
theorem eE (mb B:Nat) (x1:Option Addr) (n1 c1:Nat) (x2:Option Addr) (n2 c2:Nat) (fuel:Nat) (ns:List NR) (op:List Int) (i:Nat) (n:NR) (hn:ns[i]?=some n) (hform:n.form≠12) (c:Nat) (g:MM->MV × MM)
  (hg:∀ (w:World) (nv cv rv:Value) (m:MM),ja mb B w (.slice x1 n1 c1) (.slice x2 n2 c2) fuel nv cv rv m ns op c->Calls Tryz.prog 89 #[ptr mb,aI n] w (fY mb w (.slice x1 n1 c1) (.slice x2 n2 c2) fuel nv cv rv (g m)))
  (w:World) (nv cv rv:Value) (m:MM) (h:ja mb B w (.slice x1 n1 c1) (.slice x2 n2 c2) fuel nv cv rv m ns op c) :
  Calls Tryz.prog 68 #[ptr mb,.int .i64 i] w (fY mb w (.slice x1 n1 c1) (.slice x2 n2 c2) fuel nv cv rv (g m)):=by
 obtain ⟨R,hR⟩:∃ R:Obj,R=.cells #[.bool false,.int .i64 0] 122:=⟨_,rfl⟩
 have hW1:Below w.heap.size w (w.alloc R):=aE (Below.refl _ _) _
 have hno:=ew (w.alloc R) (.slice x1 n1 c1) (.slice x2 n2 c2) ns op (h.env.tree _ (hW1.mono h.env.s)) i n hn h.env.len
 have kX:Beside mb w.heap.size (w.alloc R) nv cv rv (.cells #[.bool false,.int .i64 0] 122):=Beside.new h.i (by rw [hR];exact aj w _) (Nat.le_refl _)
 have h1:=h.below hW1
 have dV:Hid (bz mb mb w (w.alloc R) nv cv rv nv cv rv):=bz.below mb mb nv cv rv hW1
 have H1:Hid _:=h1
 have jR:Hid _:=kX
 have HG:Hid _:=hg
 have y0:w.cell? ⟨mb,0,none⟩=some (.slice x1 n1 c1):=by rw [aa h.i.y];rfl
 have y1:w.cell? ⟨mb,1,none⟩=some (.slice x2 n2 c2):=by rw [aa h.i.y];rfl
 have nR:=af h.i.y
 have uL:Hid _:=hform
 have lN:i<=9000:=by have:=(List.getElem?_eq_some_iff.1 hn).1;have:=h.env.len;omega
 have Mw:((n.form:Int) == 12)=false:=kf (b:=12) hform
 clear hW1 kX h1 h hg hn hform
 unfold aJ aI at hno
 unfold ptr
 go_enter Tryz.func68,Tryz.ntmps68
 subst hR
 go_wp2_with fail
 refine Calls.mono hno ?_
 rintro _ w2 ⟨rfl,hb2⟩
 obtain ⟨W3,iv⟩:∃ W3,W3=w2.alloc (.cells #[.int .i64 n.form,.int .i64 n.at_,.int .i64 n.aR,.int .i64 n.num,.string (bs n.word),.int .i64 n.region,.int .i64 n.source,.int .i64 n.p0,.int .i64 n.p1,.int .i64 n.p2] 108):=⟨_,rfl⟩
 have hb3:Below (w.alloc (.cells #[.bool false,.int .i64 0] 122)).heap.size (w.alloc (.cells #[.bool false,.int .i64 0] 122)) W3:=by rw [iv];exact hb2.alloc hb2.size _
 have h3:=H1.out.below hb3
 have hf3:bz mb mb (w.alloc (.cells #[.bool false,.int .i64 0] 122)) W3 nv cv rv nv cv rv:=bz.below mb mb nv cv rv hb3
 have hk:=HG.out W3 nv cv rv m h3
 have HK:Hid _:=hk
 have dK:Hid _:=dV.out.trans hf3
 have eI:Hid _:=jR.out.keep hf3
 clear hb2 hb3 h3 hf3 hk H1 dV jR HG hno y0 y1
 unfold ptr aI at HK
 go_wp2_with fail
 rw [<- iv]
 refine Calls.mono HK.out ?_
 rintro _ w5 ⟨rfl,FM,cv5,rv5,eG,nS⟩
 have fS:Hid _:=dK.out.trans eG
 have iZ:Hid _:=nS
 have aG:=eI.out.keep eG
 have dq:Hid _:=aG
 have fV:w.heap.size<=w.heap.size:=Nat.le_refl _
 have x0:w5.cell? ⟨w.heap.size,0,none⟩=some (.bool false):=by rw [aa aG.b];rfl
 have x1:w5.cell? ⟨w.heap.size,1,none⟩=some (.int .i64 0):=by rw [aa aG.b];rfl
 have g0:w5.frozen? ⟨w.heap.size,0,none⟩=false:=ag aG.b 0
 have g1:w5.frozen? ⟨w.heap.size,1,none⟩=false:=ag aG.b 1
 have Bl:=af aG.b
 clear eG nS aG HK dK eI iv nR
 generalize g m=res at *
 unfold lG
 go_wp2
 have aV:=dq.out
 have jB:=(iZ.out.beside aV.ne aV.n aV.c aV.r 0 (.bool res.1.c)).beside aV.ne aV.n aV.c aV.r 1 (.int .i64 res.1.n)
 have iK:=(fS.out.upto (aw (aw (Below.refl _ _) ⟨w.heap.size,0,none⟩ fV (.bool res.1.c)) ⟨w.heap.size,1,none⟩ fV (.int .i64 res.1.n)))
 refine bodyPost_ret (v:=.agg #[.bool res.1.c,.int .i64 res.1.n]) (by simp [results,Tryz.results68,go_sem,x0,x1]) rfl ⟨rfl,_,_,_,iK,jB⟩
mutual
def kZ (ns:List NR):Sc->PT->Nat->Prop
 | _,.num _ s,base=>∃ n,ns[base]?=some n/\n.form=1/\n.num=aq s
 | sc,.name _ s,base=>∃ n,ns[base]?=some n/\n.form=2/\n.source=bN sc s
 | sc,.node _ k nm rg kids,base=>(∃ n,ns[base+az kids]?=some n/\n.form=aY k/\n.region=aq rg/\n.p0=(aA kids base).getD 0 (-1)/\n.p1=(aA kids base).getD 1 (-1)/\n.p2=(aA kids base).getD 2 (-1))/\fZ ns sc nm kids (cf k) base
def fZ (ns:List NR):Sc->List UInt8->List PT->List Bool->Nat->Prop
 | _,_,[],_,_=>True
 | _,_,_::_,[],_=>False
 | sc,nm,t::r,b::bs,base=>kZ ns (if b then sc++[(nm,(base:Int) - 1)] else sc) t base/\fZ ns sc nm r bs (base+t.cnt)
end
theorem Bo {α:Type} (pre a post:List α) (j:Nat) (x:α) (h:a[j]?=some x):(pre++(a++post))[pre.length+j]?=some x:=by
 have hj:=(List.getElem?_eq_some_iff.1 h).1
 rw [List.getElem?_append_right (by omega),Nat.add_sub_cancel_left,List.getElem?_append_left hj];exact h
mutual
theorem NA.xg:∀ {scope:Sc} {t:PT} {base:Nat} {ms:List NR},NA scope t base ms->∀ (pre post:List NR),pre.length=base->kZ (pre++(ms++post)) scope t base
 | _,.num _ s,_,_,h,pre,post,hb=>by
  simp only [NA] at h;subst h;subst hb
  simp only [kZ]
  exact ⟨_,Bo pre _ post 0 _ rfl,rfl,rfl⟩
 | _,.name _ s,_,_,h,pre,post,hb=>by
  simp only [NA] at h;subst h;subst hb
  simp only [kZ]
  exact ⟨_,Bo pre _ post 0 _ rfl,rfl,rfl⟩
 | _,.node p k nm rg kids,base,_,h,pre,post,hb=>by
  simp only [NA] at h
  obtain ⟨ks,aR,h1,rfl⟩:=h
  have hl:=cY.len h1
  simp only [kZ]
  refine ⟨⟨⟨aY k,p,aR,0,nm,aq rg,-1,(aA kids base).getD 0 (-1),(aA kids base).getD 1 (-1),(aA kids base).getD 2 (-1)⟩,?_,rfl,rfl,rfl,rfl,rfl⟩,?_⟩
  ·rw [<- hl];conv=>lhs;rw [show base+ks.length=pre.length+ks.length from by rw [hb]]
   refine Bo pre _ post ks.length _ ?_
   rw [List.getElem?_append_right (Nat.le_refl _),Nat.sub_self];rfl
  ·have h2:=cY.xg h1 pre (⟨aY k,p,aR,0,nm,aq rg,-1,(aA kids base).getD 0 (-1),(aA kids base).getD 1 (-1),(aA kids base).getD 2 (-1)⟩::post) hb
   rw [List.append_assoc,List.singleton_append]
   exact h2
theorem cY.xg:∀ {scope:Sc} {nm:List UInt8} {ts:List PT} {bs:List Bool} {base:Nat} {ms:List NR},cY scope nm ts bs base ms->∀ (pre post:List NR),pre.length=base->fZ (pre++(ms++post)) scope nm ts bs base
 | _,_,[],_,_,_,_,_,_,_=>by simp [fZ]
 | _,_,_::_,[],_,_,h,_,_,_=>by simp [cY] at h
 | _,_,t::r,b::bs,_,_,h,pre,post,hb=>by
  simp only [cY] at h
  obtain ⟨a,c,h1,h2,rfl⟩:=h
  have hl:=NA.len h1
  simp only [fZ]
  constructor
  ·have:=NA.xg h1 pre (c++post) hb
   rw [List.append_assoc];exact this
  ·have:=cY.xg h2 (pre++a) post (by rw [List.length_append,hl,hb])
   simp only [List.append_assoc] at this ⊢;exact this
end
theorem NA.Qy {scope:Sc} {t:PT} {ns:List NR} (h:NA scope t 0 ns):kZ ns scope t 0:=by
 have:=NA.xg h [] [] rfl
 simpa using this
def JT (sc:Sc):Prop:=∀ x∈sc,-1<=x.2/\x.2<=9000
theorem JT.find {sc:Sc} (h:JT sc) (s:List UInt8):-1<=bN sc s/\bN sc s<=9000:=by
 unfold bN
 split
 ·rename_i x hx
  exact h x (by have:=List.mem_of_find?_eq_some hx;simpa using this)
 ·omega
theorem JT.snoc {sc:Sc} (h:JT sc) (nm:List UInt8) (i:Int) (hi:-1<=i/\i<=9000):JT (sc++[(nm,i)]):=by
 intro x hx
 rw [List.mem_append,List.mem_singleton] at hx
 rcases hx with hx | rfl
 ·exact h x hx
 ·exact hi
def xh (mb B:Nat) (x1:Option Addr) (n1 c1:Nat) (x2:Option Addr) (n2 c2:Nat) (fuel:Nat) (ns:List NR) (op:List Int) (t:PT):Prop :=
 ∀ (sc:Sc) (base:Nat),kZ ns sc t base->JT sc->t.wf->t.jr->base+t.cnt<=ns.length->ns.length<=9000->fuel<=20000->gB mb B (.slice x1 n1 c1) (.slice x2 n2 c2) fuel ns op (((base+t.cnt:Nat):Int) - 1) t.cnt (fun m=>mW fuel t sc base m)
theorem MF (mb B:Nat) (x1:Option Addr) (n1 c1:Nat) (x2:Option Addr) (n2 c2:Nat) (fuel:Nat) (ns:List NR) (op:List Int) (p:Nat) (s:List UInt8):xh mb B x1 n1 c1 x2 n2 c2 fuel ns op (.num p s):=by
 intro sc base hs hsc hw hr hle zu hf w nv cv rv m h
 refine ⟨du fuel hf _ sc base m hw hr h.bd h.rl,?_⟩
 simp only [kZ] at hs
 obtain ⟨n,hn,hfm,pO⟩:=hs
 simp only [PT.cnt] at h ⊢
 rw [show (((base+1:Nat):Int) - 1)=(base:Int) from by omega]
 have:=eE mb B x1 n1 c1 x2 n2 c2 fuel ns op base n hn (by rw [hfm];decide) 1 (fun m=>ba fuel m (fun m=>(⟨false,n.num⟩,m))) (fun w nv cv rv m h=>UJ mb B _ _ fuel ns op n hfm 1 w nv cv rv m h) w nv cv rv m h
 rw [pO] at this
 simp only [mW]
 exact this
theorem JU (mb B:Nat) (x1:Option Addr) (n1 c1:Nat) (x2:Option Addr) (n2 c2:Nat) (fuel:Nat) (ns:List NR) (op:List Int) (p:Nat) (s:List UInt8):xh mb B x1 n1 c1 x2 n2 c2 fuel ns op (.name p s):=by
 intro sc base hs hsc hw hr hle zu hf w nv cv rv m h
 refine ⟨du fuel hf _ sc base m hw hr h.bd h.rl,?_⟩
 simp only [kZ] at hs
 obtain ⟨n,hn,hfm,hsrc⟩:=hs
 simp only [PT.cnt] at h ⊢
 rw [show (((base+1:Nat):Int) - 1)=(base:Int) from by omega]
 have:=eE mb B x1 n1 c1 x2 n2 c2 fuel ns op base n hn (by rw [hfm];decide) 1 (fun m=>ba fuel m (fun m=>(m.look n.source,m))) (fun w nv cv rv m h=>UK mb B _ _ fuel ns op n hfm 1 (by rw [hsrc];exact hsc.find s) w nv cv rv m h) w nv cv rv m h
 rw [hsrc] at this
 simp only [mW]
 exact this
theorem JV (mb B:Nat) (x1:Option Addr) (n1 c1:Nat) (x2:Option Addr) (n2 c2:Nat) (fuel:Nat) (ns:List NR) (op:List Int) (p:Nat) (k:Kw) (nm rg:List UInt8) (kids:List PT) (ih:∀ x∈kids,xh mb B x1 n1 c1 x2 n2 c2 fuel ns op x):xh mb B x1 n1 c1 x2 n2 c2 fuel ns op (.node p k nm rg kids):=by
 intro sc base hs hsc hw hr hle zu hf w nv cv rv m h
 refine ⟨du fuel hf _ sc base m hw hr h.bd h.rl,?_⟩
 simp only [kZ] at hs
 obtain ⟨⟨n,hn,hfm,hrg,oU,gI,vA⟩,hks⟩:=hs
 simp only [PT.wf] at hw
 simp only [PT.jr] at hr
 simp only [PT.cnt] at h hle ⊢
 rw [show (((base+(1+az kids):Nat):Int) - 1)=((base+az kids:Nat):Int) from by omega]
 cases k with
 | aT =>
  match kids,hw.1,ih with
  | [a,b],_,ih =>
   simp only [cf,fZ,if_true,Bool.false_eq_true,if_false] at hks
   simp only [oZ] at hw
   simp only [cL] at hr
   simp only [az,Nat.add_zero] at hle hn h ⊢
   simp only [aA,List.getD_cons_zero,List.getD_cons_succ] at oU gI
   have ha:=ih a (by simp) sc base hks.1 hsc hw.2.1 hr.2.1 (by omega) zu hf
   have hb:=ih b (by simp) _ (base+a.cnt) hks.2.1 (hsc.snoc _ _ (by omega)) hw.2.2.1 hr.2.2.1 (by omega) zu hf
   rw [<- oU] at ha
   rw [<- gI] at hb
   have hwl:=fun w nv cv rv m h=>Dm mb B _ _ fuel ns op n a.cnt b.cnt _ _ (by rw [oU];omega) ha hb w nv cv rv m (ja.less (c:=1+(a.cnt+b.cnt)) h (by omega))
   have:=eE mb B x1 n1 c1 x2 n2 c2 fuel ns op (base+(a.cnt+b.cnt)) n hn (by rw [hfm];decide) (1+(a.cnt+b.cnt)) _ (fun w nv cv rv m h=>UC mb B _ _ fuel ns op n hfm (1+(a.cnt+b.cnt)) _ hwl w nv cv rv m h) w nv cv rv m h
   rw [oU] at this
   simp only [mW,sD,if_true,reduceCtorEq,if_false]
   exact this
 | pair =>
  match kids,hw.1,ih with
  | [a,b],_,ih =>
   simp only [cf,fZ,Bool.false_eq_true,if_false] at hks
   simp only [oZ] at hw
   simp only [cL] at hr
   simp only [az,Nat.add_zero] at hle hn h ⊢
   simp only [aA,List.getD_cons_zero,List.getD_cons_succ] at oU gI
   have ha:=ih a (by simp) sc base hks.1 hsc hw.2.1 hr.2.1 (by omega) zu hf
   have hb:=ih b (by simp) _ (base+a.cnt) hks.2.1 hsc hw.2.2.1 hr.2.2.1 (by omega) zu hf
   rw [<- oU] at ha
   rw [<- gI] at hb
   have hwl:=fun w nv cv rv m h=>Bm mb B _ _ fuel ns op n a.cnt b.cnt _ _ ha hb w nv cv rv m (ja.less (c:=1+(a.cnt+b.cnt)) h (by omega))
   have:=eE mb B x1 n1 c1 x2 n2 c2 fuel ns op (base+(a.cnt+b.cnt)) n hn (by rw [hfm];decide) (1+(a.cnt+b.cnt)) _ (fun w nv cv rv m h=>UD mb B _ _ fuel ns op n hfm (1+(a.cnt+b.cnt)) _ hwl w nv cv rv m h) w nv cv rv m h
   rw [hrg] at this
   simp only [mW,fN,if_true,reduceCtorEq,if_false]
   exact this
 | fst =>
  match kids,hw.1,ih with
  | [a],_,ih =>
   simp only [cf,fZ,Bool.false_eq_true,if_false] at hks
   simp only [oZ] at hw
   simp only [cL] at hr
   simp only [az,Nat.add_zero] at hle hn h ⊢
   simp only [aA,List.getD_cons_zero] at oU
   have ha:=ih a (by simp) sc base hks.1 hsc hw.2.1 hr.2.1 (by omega) zu hf
   rw [<- oU] at ha
   have hwl:=fun w nv cv rv m h=>sL mb B _ _ fuel ns op n a.cnt _ ha w nv cv rv m (ja.less (c:=1+a.cnt) h (by omega))
   have:=eE mb B x1 n1 c1 x2 n2 c2 fuel ns op (base+a.cnt) n hn (by rw [hfm];decide) (1+a.cnt) _ (fun w nv cv rv m h=>UE mb B _ _ fuel ns op n hfm (1+a.cnt) _ hwl w nv cv rv m h) w nv cv rv m h
   simp only [if_pos (show n.form=5 from hfm)] at this
   simp only [mW,fN,if_true,reduceCtorEq,if_false]
   exact this
 | snd =>
  match kids,hw.1,ih with
  | [a],_,ih =>
   simp only [cf,fZ,Bool.false_eq_true,if_false] at hks
   simp only [oZ] at hw
   simp only [cL] at hr
   simp only [az,Nat.add_zero] at hle hn h ⊢
   simp only [aA,List.getD_cons_zero] at oU
   have ha:=ih a (by simp) sc base hks.1 hsc hw.2.1 hr.2.1 (by omega) zu hf
   rw [<- oU] at ha
   have hwl:=fun w nv cv rv m h=>sL mb B _ _ fuel ns op n a.cnt _ ha w nv cv rv m (ja.less (c:=1+a.cnt) h (by omega))
   have:=eE mb B x1 n1 c1 x2 n2 c2 fuel ns op (base+a.cnt) n hn (by rw [hfm];decide) (1+a.cnt) _ (fun w nv cv rv m h=>UF mb B _ _ fuel ns op n hfm (1+a.cnt) _ hwl w nv cv rv m h) w nv cv rv m h
   simp only [if_neg (show n.form≠5 by rw [hfm];decide)] at this
   simp only [mW,fN,reduceCtorEq,if_false]
   exact this
 | dQ =>
  match kids,hw.1,ih with
  | [a,b,c],_,ih =>
   simp only [cf,fZ,Bool.false_eq_true,if_false] at hks
   simp only [oZ] at hw
   simp only [cL] at hr
   simp only [az,Nat.add_zero] at hle hn h ⊢
   simp only [aA,List.getD_cons_zero,List.getD_cons_succ] at oU gI vA
   have ha:=ih a (by simp) sc base hks.1 hsc hw.2.1 hr.2.1 (by omega) zu hf
   have hb:=ih b (by simp) _ (base+a.cnt) hks.2.1 hsc hw.2.2.1 hr.2.2.1 (by omega) zu hf
   have hc:=ih c (by simp) _ (base+a.cnt+b.cnt) hks.2.2.1 hsc hw.2.2.2.1 hr.2.2.2.1 (by omega) zu hf
   rw [<- oU] at ha
   rw [<- gI] at hb
   rw [<- vA] at hc
   have hwl:=fun w nv cv rv m h=>FN mb B _ _ fuel ns op n a.cnt b.cnt _ _ _ ha hb c.cnt hc w nv cv rv m (ja.less (c:=1+(a.cnt+(b.cnt+c.cnt))) h (by omega))
   have:=eE mb B x1 n1 c1 x2 n2 c2 fuel ns op (base+(a.cnt+(b.cnt+c.cnt))) n hn (by rw [hfm];decide) (1+(a.cnt+(b.cnt+c.cnt))) _ (fun w nv cv rv m h=>UG mb B _ _ fuel ns op n hfm (1+(a.cnt+(b.cnt+c.cnt))) _ hwl w nv cv rv m h) w nv cv rv m h
   simp only [mW,Fz,if_true,reduceCtorEq,if_false]
   exact this
 | loop =>
  match kids,hw.1,ih with
  | [a,b,c],_,ih =>
   simp only [cf,fZ,if_true,Bool.false_eq_true,if_false] at hks
   simp only [oZ] at hw
   simp only [cL] at hr
   simp only [az,Nat.add_zero] at hle hn h ⊢
   simp only [aA,List.getD_cons_zero,List.getD_cons_succ] at oU gI vA
   have ha:=ih a (by simp) sc base hks.1 hsc hw.2.1 hr.2.1 (by omega) zu hf
   have hb:=ih b (by simp) _ (base+a.cnt) hks.2.1 hsc hw.2.2.1 hr.2.2.1 (by omega) zu hf
   have hc:=ih c (by simp) _ (base+a.cnt+b.cnt) hks.2.2.1 (hsc.snoc _ _ (by omega)) hw.2.2.2.1 hr.2.2.2.1 (by omega) zu hf
   rw [<- oU] at ha
   rw [<- gI] at hb
   rw [<- vA] at hc
   have hwl:=fun w nv cv rv m h=>Bn mb B _ _ fuel ns op n (by rw [gI];omega) a.cnt b.cnt c.cnt _ _ _ ha hb (by omega) hc w nv cv rv m (ja.less (c:=1+(a.cnt+(b.cnt+c.cnt))) h (by omega))
   have:=eE mb B x1 n1 c1 x2 n2 c2 fuel ns op (base+(a.cnt+(b.cnt+c.cnt))) n hn (by rw [hfm];decide) (1+(a.cnt+(b.cnt+c.cnt))) _ (fun w nv cv rv m h=>Qx mb B _ _ fuel ns op n hfm (1+(a.cnt+(b.cnt+c.cnt))) _ hwl w nv cv rv m h) w nv cv rv m h
   rw [gI] at this
   simp only [mW,kU,if_true,reduceCtorEq,if_false]
   exact this
 | new =>
  match kids,hw.1,ih with
  | [a],_,ih =>
   simp only [cf,fZ,Bool.false_eq_true,if_false] at hks
   simp only [oZ] at hw
   simp only [cL] at hr
   simp only [az,Nat.add_zero] at hle hn h ⊢
   simp only [aA,List.getD_cons_zero] at oU
   have ha:=ih a (by simp) sc base hks.1 hsc hw.2.1 hr.2.1 (by omega) zu hf
   rw [<- oU] at ha
   have:=ME mb B x1 n1 c1 x2 n2 c2 fuel ns op (base+a.cnt) n hn hfm (1+a.cnt) _ (fun w nv cv rv m h=>Dn mb B _ _ fuel ns op n (by rw [hrg];omega) a.cnt _ ha w nv cv rv m h) w nv cv rv m h
   rw [hrg] at this
   simp only [mW,pV,if_true]
   exact this
 | _ =>
  match kids,hw.1,ih with
  | [a,b],_,ih =>
   simp only [cf,fZ,Bool.false_eq_true,if_false] at hks
   simp only [oZ] at hw
   simp only [cL] at hr
   simp only [az,Nat.add_zero] at hle hn h ⊢
   simp only [aA,List.getD_cons_zero,List.getD_cons_succ] at oU gI
   have ha:=ih a (by simp) sc base hks.1 hsc hw.2.1 hr.2.1 (by omega) zu hf
   have hb:=ih b (by simp) _ (base+a.cnt) hks.2.1 hsc hw.2.2.1 hr.2.2.1 (by omega) zu hf
   rw [<- oU] at ha
   rw [<- gI] at hb
   have hwl:=fun w nv cv rv m h=>ve mb B _ _ fuel ns op n a.cnt b.cnt _ _ ha hb w nv cv rv m (ja.less (c:=1+(a.cnt+b.cnt)) h (by omega))
   first
   | (have:=eE mb B x1 n1 c1 x2 n2 c2 fuel ns op (base+(a.cnt+b.cnt)) n hn (by rw [hfm];decide) (1+(a.cnt+b.cnt)) _ (fun w nv cv rv m h=>UH mb B _ _ fuel ns op n hfm (1+(a.cnt+b.cnt)) _ hwl w nv cv rv m h) w nv cv rv m h
      simp only [hfm] at this
      simp only [mW,fN,reduceCtorEq,if_false]
      exact this)
   | (have:=eE mb B x1 n1 c1 x2 n2 c2 fuel ns op (base+(a.cnt+b.cnt)) n hn (by rw [hfm];decide) (1+(a.cnt+b.cnt)) _ (fun w nv cv rv m h=>UI mb B _ _ fuel ns op n hfm (1+(a.cnt+b.cnt)) _ hwl w nv cv rv m h) w nv cv rv m h
      simp only [hfm] at this
      simp only [mW,fN,reduceCtorEq,if_false]
      exact this)
   | (have:=eE mb B x1 n1 c1 x2 n2 c2 fuel ns op (base+(a.cnt+b.cnt)) n hn (by rw [hfm];decide) (1+(a.cnt+b.cnt)) _ (fun w nv cv rv m h=>Qw mb B _ _ fuel ns op n hfm (1+(a.cnt+b.cnt)) _ hwl w nv cv rv m h) w nv cv rv m h
      simp only [hfm] at this
      simp only [mW,fN,reduceCtorEq,if_false]
      exact this)
theorem MG (mb B:Nat) (x1:Option Addr) (n1 c1:Nat) (x2:Option Addr) (n2 c2:Nat) (fuel:Nat) (ns:List NR) (op:List Int) (t:PT):xh mb B x1 n1 c1 x2 n2 c2 fuel ns op t:=by
 induction t using PT.ind with
 | h1 p s=>exact MF mb B x1 n1 c1 x2 n2 c2 fuel ns op p s
 | h2 p s=>exact JU mb B x1 n1 c1 x2 n2 c2 fuel ns op p s
 | h3 p k nm rg kids ih=>exact JV mb B x1 n1 c1 x2 n2 c2 fuel ns op p k nm rg kids ih
def Fits (cells:List MC):Ty->MV->Prop
 | .n,v=>v.c=false/\0<=v.n/\v.n<=9999
 | .p _ A B,v=>(v.c=false/\0<=v.n/\v.n<=9999)\/(v.c=true/\∃ (i:Nat) (c:MC),v.n=i/\cells[i]?=some c/\Fits cells A c.a/\Fits cells B c.b)
theorem sM (cells:List MC) (T:Ty):Fits cells T v0:=by cases T <;> simp [Fits,v0]
theorem Fits.mono {cells l:List MC}:∀ {T:Ty} {v:MV},Fits cells T v->Fits (cells++l) T v
 | .n,_,h=>h
 | .p _ A B,_,h=>by
  simp only [Fits] at h ⊢
  rcases h with h | ⟨hc,i,c,hv,hi,ha,hb⟩
  ·exact Or.inl h
  ·refine Or.inr ⟨hc,i,c,hv,?_,Fits.mono ha,Fits.mono hb⟩
   rw [List.getElem?_append_left (List.getElem?_eq_some_iff.1 hi).1];exact hi
structure Ext (m m':MM) (base c:Nat):Prop where
 cells:∃ l,m'.cells=m.cells++l
 len:m'.named.length=m.named.length
 named:∀ i,(i < base\/base+c<=i)->m'.named[i]?=m.named[i]?
theorem Ext.refl (m:MM) (base c:Nat):Ext m m base c:=⟨⟨[],by simp⟩,rfl,fun _ _=>rfl⟩
theorem Ext.trans {m m1 m2:MM} {b c b1 c1 b2 c2:Nat} (h:Ext m m1 b1 c1) (h':Ext m1 m2 b2 c2) (hb1:b<=b1/\b1+c1<=b+c) (hb2:b<=b2/\b2+c2<=b+c):Ext m m2 b c:=by
 obtain ⟨l,hl⟩:=h.cells
 obtain ⟨l',hl'⟩:=h'.cells
 exact ⟨⟨l++l',by rw [hl',hl,List.append_assoc]⟩,h'.len.trans h.len,fun i hi=>(h'.named i (by omega)).trans (h.named i (by omega))⟩
theorem Ext.same {m m':MM} (h1:m'.cells=m.cells) (h2:m'.named=m.named) (base c:Nat):Ext m m' base c:=⟨⟨[],by simp [h1]⟩,by rw [h2],fun _ _=>by rw [h2]⟩
theorem Fits.on {m m':MM} {b c:Nat} {T:Ty} {v:MV} (h:Fits m.cells T v) (he:Ext m m' b c):Fits m'.cells T v:=by
 obtain ⟨l,hl⟩:=he.cells
 rw [hl];exact h.mono
theorem Dq (m:MM) (f base c:Nat):Ext m (m.stop f) base c:=by unfold MM.stop;split <;> (refine Ext.same ?_ ?_ _ _ <;> rfl)
theorem Hv (m:MM) (v:MV) (base c:Nat):Ext m (m.use v).2 base c:=by
 unfold MM.use;split
 ·exact Ext.refl _ _ _
 ·simp only;split
  ·exact Ext.refl _ _ _
  ·exact Dq _ _ _ _
theorem sN (m:MM) (k:Int) (a b:MV) (base c:Nat):Ext m (m.aX k a b).2 base c:=by
 unfold MM.aX;split
 ·exact Ext.refl _ _ _
 ·exact ⟨⟨_,rfl⟩,rfl,fun _ _=>rfl⟩
theorem dw (m:MM) (j:Nat) (v:MV) (base c:Nat) (hj:base<=j/\j < base+c):Ext m (m.name (j:Int) v) base c:=by
 unfold MM.name;split
 ·refine ⟨⟨[],by simp⟩,by simp,fun i hi=>?_⟩
  simp only [Int.toNat_natCast]
  rw [List.getElem?_set_ne (by omega)]
 ·exact Ext.refl _ _ _
theorem Bp (m:MM) (j:Nat) (v:MV) (hj:j < m.named.length):(m.name (j:Int) v).named[j]?=some v:=by
 unfold MM.name
 rw [if_pos (by omega)]
 simp only [Int.toNat_natCast]
 rw [List.getElem?_set_self hj]
theorem Bq (m:MM) (base c:Nat):Ext m m.fin base c:=by unfold MM.fin;split <;> (refine Ext.same ?_ ?_ _ _ <;> rfl)
def EF (named:List MV) (cells:List MC) (sc:Sc) (G:aQ) (base:Nat):Prop:=∀ s T,look G s=some T->∃ (i:Nat) (v:MV),bN sc s=(i:Int)/\i < base/\named[i]?=some v/\Fits cells T v
theorem rm (G:aQ) (nm:List UInt8) (T:Ty) (s:List UInt8):look (G++[(nm,T)]) s=if nm=s then some T else look G s:=by
 unfold look
 rw [List.reverse_append]
 simp only [List.reverse_cons,List.reverse_nil,List.nil_append,List.singleton_append,List.find?_cons]
 by_cases h:nm=s
 ·simp [h]
 ·have:(nm == s)=false:=by rw [beq_eq_false_iff_ne];exact h
  simp [h,this]
theorem xj (sc:Sc) (nm:List UInt8) (j:Int) (s:List UInt8):bN (sc++[(nm,j)]) s=if nm=s then j else bN sc s:=by
 unfold bN
 rw [List.reverse_append]
 simp only [List.reverse_cons,List.reverse_nil,List.nil_append,List.singleton_append,List.find?_cons]
 by_cases h:nm=s
 ·simp [h]
 ·have:(nm == s)=false:=by rw [beq_eq_false_iff_ne];exact h
  simp [h,this]
theorem EF.on {m m':MM} {sc:Sc} {G:aQ} {base b c:Nat} (h:EF m.named m.cells sc G base) (he:Ext m m' b c) (hb:base<=b):EF m'.named m'.cells sc G base:=by
 intro s T hl
 obtain ⟨i,v,h1,h2,h3,h4⟩:=h s T hl
 exact ⟨i,v,h1,h2,(he.named i (Or.inl (by omega))).trans h3,h4.on he⟩
theorem EF.up {named:List MV} {cells:List MC} {sc:Sc} {G:aQ} {base b:Nat} (h:EF named cells sc G base) (hb:base<=b):EF named cells sc G b:=by
 intro s T hl
 obtain ⟨i,v,h1,h2,h3,h4⟩:=h s T hl
 exact ⟨i,v,h1,by omega,h3,h4⟩
theorem EF.snoc {m:MM} {sc:Sc} {G:aQ} {base j:Nat} {nm:List UInt8} {T:Ty} {v:MV} (h:EF m.named m.cells sc G base) (hj:base<=j) (hl:j < m.named.length) (hv:Fits m.cells T v):EF (m.name (j:Int) v).named (m.name (j:Int) v).cells (sc++[(nm,(j:Int))]) (G++[(nm,T)]) (j+1):=by
 have he:=dw m j v j 1 (by omega)
 intro s T' hlk
 rw [rm] at hlk
 rw [xj]
 by_cases hs:nm=s
 ·rw [if_pos hs] at hlk ⊢
  cases hlk
  exact ⟨j,v,rfl,by omega,Bp m j v hl,hv.on he⟩
 ·rw [if_neg hs] at hlk ⊢
  obtain ⟨i,u,h1,h2,h3,h4⟩:=h s T' hlk
  exact ⟨i,u,h1,by omega,(he.named i (Or.inl (by omega))).trans h3,h4.on he⟩
def xk (m:MM) (x:MV × MM) (base c:Nat) (T:Ty):Prop:=Ext m x.2 base c/\Fits x.2.cells T x.1
theorem gb {fuel:Nat} {m:MM} {f:MM->MV × MM} {base c:Nat} {T:Ty} (h:xk { m with steps:=m.steps+1 } (f { m with steps:=m.steps+1 }) base c T):xk m (ba fuel m f) base c T:=by
 unfold ba
 by_cases mG:fuel<=m.steps
 ·simp only [if_pos mG]
  have hne:(m.stop 12).fault≠0:=by unfold MM.stop;split <;> simp_all
  simp only [if_pos hne]
  exact ⟨Dq _ _ _ _,sM _ _⟩
 ·simp only [if_neg mG]
  by_cases hz:m.fault=0
  ·rw [if_neg (fun hn=>hn hz)]
   exact ⟨(show Ext m { m with steps:=m.steps+1 } base c from Ext.same (by rfl) (by rfl) base c).trans h.1 (by omega) (by omega),h.2⟩
  ·rw [if_pos hz]
   exact ⟨Ext.refl _ _ _,sM _ _⟩
theorem Ag {base c j:Nat} {T:Ty} {f:MM->MV × MM} {L:Nat} {P:MM->Prop} (hj:base<=j/\j < base+c) (hP:∀ m v,P m->Fits m.cells T v->m.named.length=L->xk (m.name (j:Int) v) (f (m.name (j:Int) v)) base c T) (hPe:∀ m m',P m->Ext m m' base c->P m'):∀ (k:Nat) (v:MV) (m:MM),P m->Fits m.cells T v->m.named.length=L->xk m (cD (j:Int) f k v m) base c T
 | 0,v,m,_,hv,_=>⟨Ext.refl _ _ _,hv⟩
 | k+1,v,m,hm,hv,hL=>by
  simp only [cD]
  split
  ·exact ⟨Ext.refl _ _ _,hv⟩
  ·have h1:=hP m v hm hv hL
   have he:Ext m (f (m.name (j:Int) v)).2 base c:=(dw m j v base c hj).trans h1.1 (by omega) (by omega)
   have h2:=Ag hj hP hPe k (f (m.name (j:Int) v)).1 (f (m.name (j:Int) v)).2 (hPe m _ hm he) h1.2 (he.len.trans hL)
   exact ⟨he.trans h2.1 (by omega) (by omega),h2.2⟩
theorem JW (cells:List MC) (k:Kw) (a b:Int) (ha:0<=a/\a<=9999) (hb:0<=b/\b<=9999):Fits cells .n ⟨false,gQ k a b⟩:=by
 simp only [Fits,gQ,true_and]
 split
 ·rw [Int.tmod_eq_emod_of_nonneg (by omega)];omega
 ·split
  ·rw [Int.tmod_eq_emod_of_nonneg (by omega)];omega
  ·split <;> omega
theorem Hw {m:MM} {A B:Ty} {r:Nat} {v:MV} (h:Fits m.cells (.p r A B) v):Fits m.cells A (m.use v).1.a/\Fits m.cells B (m.use v).1.b:=by
 simp only [Fits] at h
 rcases h with h | ⟨hc,i,c,hv,hi,ha,hb⟩
 ·have e:(m.use v).1=c0:=by unfold MM.use;rw [if_pos (Or.inl h.1)]
  rw [e];exact ⟨sM _ _,sM _ _⟩
 ·have lN:=(List.getElem?_eq_some_iff.1 hi).1
  have e:(m.use v).1=c:=by
   unfold MM.use
   rw [if_neg (by rw [hc,hv];simp;omega)]
   simp only
   rw [hv,Int.toNat_natCast,List.getD_eq_getElem?_getD,hi];rfl
  rw [e];exact ⟨ha,hb⟩
theorem MH {m:MM} {A B:Ty} {k:Int} {a b:MV} (ha:Fits m.cells A a) (hb:Fits m.cells B b):Fits (m.aX k a b).2.cells (.p 0 A B) (m.aX k a b).1:=by
 have he:=sN m k a b 0 0
 unfold MM.aX at he ⊢
 split
 ·exact sM _ _
 ·rename_i r hr
  simp only [Fits]
  refine Or.inr ⟨trivial,m.cells.length,⟨a,b,m.home k,r.gA⟩,rfl,by simp,ha.mono,hb.mono⟩
theorem jC (fuel:Nat) {G:aQ} {t:PT} {T:Ty} (h:WT G t T):∀ (sc:Sc) (base:Nat) (m:MM),t.jr->EF m.named m.cells sc G base->base+t.cnt<=m.named.length->xk m (mW fuel t sc base m) base t.cnt T:=by
 induction h with
 | num =>
  intro sc base m hr he hl
  simp only [PT.jr] at hr
  simp only [mW]
  exact gb ⟨Ext.refl _ _ _,by simp only [Fits,true_and];exact hr⟩
 | name hlk =>
  intro sc base m hr he hl
  simp only [mW]
  refine gb ⟨Ext.refl _ _ _,?_⟩
  obtain ⟨i,v,h1,h2,h3,h4⟩:=he _ _ hlk
  have lN:=(List.getElem?_eq_some_iff.1 h3).1
  unfold MM.look
  simp only [h1]
  rw [if_neg (by omega),Int.toNat_natCast,List.getD_eq_getElem?_getD,h3]
  exact h4
 | @aT G p nm rg a b A B ha hb aM bH =>
  intro sc base m hr he hl
  simp only [PT.jr,cL] at hr
  simp only [PT.cnt,az,Nat.add_zero] at hl ⊢
  simp only [mW,sD,if_true,reduceCtorEq,if_false]
  refine gb ?_
  have h1:=aM sc base { m with steps:=m.steps+1 } hr.2.1 he (by simp only;omega)
  generalize mW fuel a sc base { m with steps:=m.steps+1 }=x at h1 ⊢
  have Wj:=cH a
  have hxl:x.2.named.length=m.named.length:=h1.1.len
  have hx:=EF.on (m:={ m with steps:=m.steps+1 }) he h1.1 (Nat.le_refl _)
  rw [show (((base+a.cnt:Nat):Int) - 1)=((base+a.cnt - 1:Nat):Int) from by omega]
  have gY:=hx.snoc (nm:=nm) (j:=base+a.cnt - 1) (by omega) (by omega) h1.2
  rw [show base+a.cnt - 1+1=base+a.cnt from by omega] at gY
  have hne:=dw x.2 (base+a.cnt - 1) x.1 base a.cnt (by omega)
  have h2:=bH _ (base+a.cnt) _ hr.2.2.1 gY (by rw [hne.len,hxl];omega)
  exact ⟨(h1.1.trans hne (b:=base) (c:=a.cnt) (by omega) (by omega)).trans h2.1 (by omega) (by omega),h2.2⟩
 | @pair G p nm rg a b A B ha hb hs aM bH =>
  intro sc base m hr he hl
  simp only [PT.jr,cL] at hr
  simp only [PT.cnt,az,Nat.add_zero] at hl ⊢
  simp only [mW,fN,if_true,reduceCtorEq,if_false]
  refine gb ?_
  have h1:=aM sc base { m with steps:=m.steps+1 } hr.2.1 he (by simp only;omega)
  generalize mW fuel a sc base { m with steps:=m.steps+1 }=x at h1 ⊢
  have hxl:x.2.named.length=m.named.length:=h1.1.len
  have h2:=bH sc (base+a.cnt) x.2 hr.2.2.1 ((EF.on (m:={ m with steps:=m.steps+1 }) he h1.1 (Nat.le_refl _)).up (by omega)) (by omega)
  generalize mW fuel b sc (base+a.cnt) x.2=y at h2 ⊢
  have h3:=sN y.2 (aq rg) x.1 y.1 base (1+(a.cnt+b.cnt))
  exact ⟨(h1.1.trans h2.1 (b:=base) (c:=a.cnt+b.cnt) (by omega) (by omega)).trans h3 (by omega) (by omega),MH (h1.2.on h2.1) h2.2⟩
 | @fst G p nm rg a A B ha aM =>
  intro sc base m hr he hl
  simp only [PT.jr,cL] at hr
  simp only [PT.cnt,az,Nat.add_zero] at hl ⊢
  simp only [mW,fN,if_true,reduceCtorEq,if_false]
  refine gb ?_
  have h1:=aM sc base { m with steps:=m.steps+1 } hr.2.1 he (by simp only;omega)
  generalize mW fuel a sc base { m with steps:=m.steps+1 }=x at h1 ⊢
  have h3:=Hv x.2 x.1 base a.cnt
  exact ⟨h1.1.trans h3 (by omega) (by omega),(Hw h1.2).1.on h3⟩
 | @snd G p nm rg a A B ha aM =>
  intro sc base m hr he hl
  simp only [PT.jr,cL] at hr
  simp only [PT.cnt,az,Nat.add_zero] at hl ⊢
  simp only [mW,fN,reduceCtorEq,if_false]
  refine gb ?_
  have h1:=aM sc base { m with steps:=m.steps+1 } hr.2.1 he (by simp only;omega)
  generalize mW fuel a sc base { m with steps:=m.steps+1 }=x at h1 ⊢
  have h3:=Hv x.2 x.1 base a.cnt
  exact ⟨h1.1.trans h3 (by omega) (by omega),(Hw h1.2).2.on h3⟩
 | @dQ G p nm rg a b c T ha hb hc aM bH gL =>
  intro sc base m hr he hl
  simp only [PT.jr,cL] at hr
  simp only [PT.cnt,az,Nat.add_zero] at hl ⊢
  simp only [mW,Fz,if_true,reduceCtorEq,if_false]
  refine gb ?_
  have h1:=aM sc base { m with steps:=m.steps+1 } hr.2.1 he (by simp only;omega)
  generalize mW fuel a sc base { m with steps:=m.steps+1 }=x at h1 ⊢
  have hxl:x.2.named.length=m.named.length:=h1.1.len
  have hx:=EF.on (m:={ m with steps:=m.steps+1 }) he h1.1 (Nat.le_refl _)
  split
  ·have h2:=bH sc (base+a.cnt) x.2 hr.2.2.1 (hx.up (by omega)) (by omega)
   exact ⟨h1.1.trans h2.1 (by omega) (by omega),h2.2⟩
  ·have h2:=gL sc (base+a.cnt+b.cnt) x.2 hr.2.2.2.1 (hx.up (by omega)) (by omega)
   exact ⟨h1.1.trans h2.1 (by omega) (by omega),h2.2⟩
 | @two G p k nm rg a b hk ha hb aM bH =>
  intro sc base m hr he hl
  simp only [PT.jr,cL] at hr
  simp only [PT.cnt,az,Nat.add_zero] at hl ⊢
  have e:mW fuel (.node p k nm rg [a,b]) sc base m=ba fuel m (fun m=>(⟨false,gQ k (mW fuel a sc base m).1.n (mW fuel b sc (base+a.cnt) (mW fuel a sc base m).2).1.n⟩,(mW fuel b sc (base+a.cnt) (mW fuel a sc base m).2).2)):=by
   rcases hk with rfl | rfl | rfl <;> simp only [mW,fN,reduceCtorEq,if_false]
  rw [e]
  refine gb ?_
  have h1:=aM sc base { m with steps:=m.steps+1 } hr.2.1 he (by simp only;omega)
  generalize mW fuel a sc base { m with steps:=m.steps+1 }=x at h1 ⊢
  have hxl:x.2.named.length=m.named.length:=h1.1.len
  have h2:=bH sc (base+a.cnt) x.2 hr.2.2.1 ((EF.on (m:={ m with steps:=m.steps+1 }) he h1.1 (Nat.le_refl _)).up (by omega)) (by omega)
  generalize mW fuel b sc (base+a.cnt) x.2=y at h2 ⊢
  have f1:=h1.2
  have f2:=h2.2
  simp only [Fits] at f1 f2
  exact ⟨h1.1.trans h2.1 (by omega) (by omega),JW _ _ _ _ f1.2 f2.2⟩
 | @loop G p nm rg a b c T ha hb hc aM bH gL =>
  intro sc base m hr he hl
  simp only [PT.jr,cL] at hr
  simp only [PT.cnt,az,Nat.add_zero] at hl ⊢
  simp only [mW,kU,if_true,reduceCtorEq,if_false]
  refine gb ?_
  have h1:=aM sc base { m with steps:=m.steps+1 } hr.2.1 he (by simp only;omega)
  generalize mW fuel a sc base { m with steps:=m.steps+1 }=x at h1 ⊢
  have hxl:x.2.named.length=m.named.length:=h1.1.len
  have hx:=EF.on (m:={ m with steps:=m.steps+1 }) he h1.1 (Nat.le_refl _)
  have h2:=bH sc (base+a.cnt) x.2 hr.2.2.1 (hx.up (by omega)) (by omega)
  generalize mW fuel b sc (base+a.cnt) x.2=y at h2 ⊢
  have nP:y.2.named.length=m.named.length:=h2.1.len.trans hxl
  have yQ:=cH b
  have hy:=hx.on h2.1 (by omega)
  rw [show (((base+a.cnt+b.cnt:Nat):Int) - 1)=((base+a.cnt+b.cnt - 1:Nat):Int) from by omega]
  have ht:=Ag (base:=base+a.cnt) (c:=b.cnt+c.cnt) (j:=base+a.cnt+b.cnt - 1) (T:=T) (L:=m.named.length) (P:=fun m=>EF m.named m.cells sc G base) (f:=fun m=>mW fuel c (sc++[(nm,((base+a.cnt+b.cnt - 1:Nat):Int))]) (base+a.cnt+b.cnt) m) (by omega)
   (fun m' v hP hv hL=>by
    have gY:=EF.snoc (nm:=nm) (j:=base+a.cnt+b.cnt - 1) (EF.up hP (show base<=base+a.cnt+b.cnt - 1 by omega)) (Nat.le_refl _) (by omega) hv
    rw [show base+a.cnt+b.cnt - 1+1=base+a.cnt+b.cnt from by omega] at gY
    have h3:=gL _ (base+a.cnt+b.cnt) _ hr.2.2.2.1 gY (by rw [(dw m' (base+a.cnt+b.cnt - 1) v (base+a.cnt+b.cnt - 1) 1 (by omega)).len];omega)
    exact ⟨(Ext.refl _ (base+a.cnt) 0).trans h3.1 (by omega) (by omega),h3.2⟩)
   (fun m1 m2 hP hE=>EF.on hP hE (by omega)) x.1.n.toNat y.1 y.2 hy h2.2 nP
  exact ⟨(h1.1.trans h2.1 (b:=base) (c:=a.cnt+b.cnt) (by omega) (by omega)).trans ht.1 (by omega) (by omega),ht.2⟩
 | @new G p nm rg a T ha aM =>
  intro sc base m hr he hl
  simp only [PT.jr,cL] at hr
  simp only [PT.cnt,az,Nat.add_zero] at hl ⊢
  simp only [mW,pV,if_true]
  have h1:=aM sc base (m.opn (aq rg)) hr.2.1 he (by show _<=m.named.length;omega)
  generalize mW fuel a sc base (m.opn (aq rg))=x at h1 ⊢
  have h0:Ext m (m.opn (aq rg)) base a.cnt:=Ext.same (by rfl) (by rfl) _ _
  have h3:=Bq x.2 base a.cnt
  exact ⟨(h0.trans h1.1 (b:=base) (c:=a.cnt) (by omega) (by omega)).trans h3 (by omega) (by omega),h1.2.on h3⟩
def gu (cells:List MC):Vl->MV->Prop
 | .n k,v=>v.c=false/\v.n=k/\k<=9999
 | .p a b,v=>v.c=true/\∃ (i:Nat) (c:MC),v.n=i/\cells[i]?=some c/\gu cells a c.a/\gu cells b c.b
theorem gu.mono {cells l:List MC}:∀ {x:Vl} {v:MV},gu cells x v->gu (cells++l) x v
 | .n _,_,h=>h
 | .p a b,_,h=>by
  simp only [gu] at h ⊢
  obtain ⟨hc,i,c,hv,hi,ha,hb⟩:=h
  refine ⟨hc,i,c,hv,?_,gu.mono ha,gu.mono hb⟩
  rw [List.getElem?_append_left (List.getElem?_eq_some_iff.1 hi).1];exact hi
theorem gu.on {m m':MM} {b c:Nat} {x:Vl} {v:MV} (h:gu m.cells x v) (he:Ext m m' b c):gu m'.cells x v:=by
 obtain ⟨l,hl⟩:=he.cells
 rw [hl];exact h.mono
theorem gu.fits {cells:List MC}:∀ {x:Vl} {T:Ty} {v:MV},gu cells x v->x.has T->Fits cells T v
 | .n k,.n,v,h,_=>by simp only [gu] at h;simp only [Fits];exact ⟨h.1,by omega,by omega⟩
 | .p a b,.p _ A B,v,h,ht=>by
  simp only [gu] at h
  simp only [Vl.has] at ht
  obtain ⟨hc,i,c,hv,hi,ha,hb⟩:=h
  simp only [Fits]
  exact Or.inr ⟨hc,i,c,hv,hi,ha.fits ht.1,hb.fits ht.2⟩
 | .n _,.p _ _ _,_,_,ht=>by simp [Vl.has] at ht
 | .p _ _,.n,_,_,ht=>by simp [Vl.has] at ht
theorem vM {cells:List MC}:∀ {T:Ty} {v:MV},Fits cells T v->∃ x,gu cells x v/\x.size<=T.size
 | .n,v,h=>by simp only [Fits] at h;exact ⟨.n v.n.toNat,by simp only [gu];exact ⟨h.1,by omega,by omega⟩,by simp [Vl.size]⟩
 | .p r A B,v,h=>by
  simp only [Fits] at h
  rcases h with h | ⟨hc,i,c,hv,hi,ha,hb⟩
  ·exact ⟨.n v.n.toNat,by simp only [gu];exact ⟨h.1,by omega,by omega⟩,by simp [Vl.size]⟩
  ·obtain ⟨x,hx,hxs⟩:=vM ha
   obtain ⟨y,hy,hys⟩:=vM hb
   exact ⟨.p x y,by simp only [gu];exact ⟨hc,i,c,hv,hi,hx,hy⟩,by simp only [Vl.size,Ty.size];omega⟩
def JX (st:bY) (m:MM):Prop:=st.e=12/\m.fault=12
def ER (named:List MV) (cells:List MC) (sc:Sc) (env:dL) (G:aQ) (base:Nat):Prop:=∀ s T,look G s=some T->∃ (i:Nat) (v:MV),bN sc s=(i:Int)/\i < base/\named[i]?=some v/\gu cells (nF env s) v/\(nF env s).has T
theorem ER.ef {named:List MV} {cells:List MC} {sc:Sc} {env:dL} {G:aQ} {base:Nat} (h:ER named cells sc env G base):EF named cells sc G base:=by
 intro s T hl
 obtain ⟨i,v,h1,h2,h3,h4,h5⟩:=h s T hl
 exact ⟨i,v,h1,h2,h3,h4.fits h5⟩
theorem ER.on {m m':MM} {sc:Sc} {env:dL} {G:aQ} {base b c:Nat} (h:ER m.named m.cells sc env G base) (he:Ext m m' b c) (hb:base<=b):ER m'.named m'.cells sc env G base:=by
 intro s T hl
 obtain ⟨i,v,h1,h2,h3,h4,h5⟩:=h s T hl
 exact ⟨i,v,h1,h2,(he.named i (Or.inl (by omega))).trans h3,h4.on he,h5⟩
theorem ER.up {named:List MV} {cells:List MC} {sc:Sc} {env:dL} {G:aQ} {base b:Nat} (h:ER named cells sc env G base) (hb:base<=b):ER named cells sc env G b:=by
 intro s T hl
 obtain ⟨i,v,h1,h2,h3,h4,h5⟩:=h s T hl
 exact ⟨i,v,h1,by omega,h3,h4,h5⟩
theorem xm (env:dL) (nm:List UInt8) (x:Vl) (s:List UInt8):nF (env++[(nm,x)]) s=if nm=s then x else nF env s:=by
 unfold nF
 rw [List.reverse_append]
 simp only [List.reverse_cons,List.reverse_nil,List.nil_append,List.singleton_append,List.find?_cons]
 by_cases h:nm=s
 ·simp [h]
 ·have:(nm == s)=false:=by rw [beq_eq_false_iff_ne];exact h
  simp [h,this]
theorem ER.snoc {m:MM} {sc:Sc} {env:dL} {G:aQ} {base j:Nat} {nm:List UInt8} {T:Ty} {x:Vl} {v:MV} (h:ER m.named m.cells sc env G base) (hj:base<=j) (hl:j < m.named.length) (hv:gu m.cells x v) (hx:x.has T):ER (m.name (j:Int) v).named (m.name (j:Int) v).cells (sc++[(nm,(j:Int))]) (env++[(nm,x)]) (G++[(nm,T)]) (j+1):=by
 have he:=dw m j v j 1 (by omega)
 intro s T' hlk
 rw [rm] at hlk
 rw [xj,xm]
 by_cases hs:nm=s
 ·rw [if_pos hs] at hlk ⊢
  rw [if_pos hs]
  cases hlk
  exact ⟨j,v,rfl,by omega,Bp m j v hl,hv.on he,hx⟩
 ·rw [if_neg hs] at hlk ⊢
  rw [if_neg hs]
  obtain ⟨i,u,h1,h2,h3,h4,h5⟩:=h s T' hlk
  exact ⟨i,u,h1,by omega,(he.named i (Or.inl (by omega))).trans h3,h4.on he,h5⟩
theorem tQ (m:MM) (f:Nat) (h:m.fault≠0):m.stop f=m:=by unfold MM.stop;rw [if_neg h]
theorem jt (fuel:Nat) (m:MM) (f:MM->MV × MM) (h:m.fault≠0):ba fuel m f=(v0,m):=by
 unfold ba
 have:(if fuel<=m.steps then m.stop 12 else m)=m:=by split <;> simp [tQ m 12 h]
 simp only [this]
 rw [if_pos h]
theorem Qz (fuel:Nat) (t:PT) (env:dL) (st:bY) (h:st.e≠0):ev fuel t env st=(.n 0,st):=by
 cases t <;> (simp only [ev,begun];rw [if_pos h])
inductive cS:PT->Prop
 | num {p:Nat} {s:List UInt8}:cS (.num p s)
 | name {p:Nat} {s:List UInt8}:cS (.name p s)
 | node {p:Nat} {k:Kw} {nm rg:List UInt8} {kids:List PT} (hk:k≠.new) (h:∀ x∈kids,cS x):cS (.node p k nm rg kids)
open Go.Lib (decDigits)
def cT:Vl->MV->MM->MM
 | .n _,_,m=>m
 | .p a b,v,m=>cT b (m.use v).1.b (cT a (m.use v).1.a (m.use v).2)
theorem JY (m:MM) (f:Nat):(m.stop f).cells=m.cells/\(m.stop f).regs=m.regs/\(m.stop f).named=m.named/\(m.stop f).steps=m.steps/\(m.stop f).live=m.live/\(m.stop f).most=m.most:=by unfold MM.stop;split <;> simp
theorem Dr (m:MM) (v:MV):(m.use v).2.cells=m.cells/\(m.use v).2.regs=m.regs/\(m.use v).2.named=m.named/\(m.use v).2.steps=m.steps/\(m.use v).2.live=m.live/\(m.use v).2.most=m.most:=by
 unfold MM.use;split
 ·simp
 ·simp only;split
  ·simp
  ·exact JY m 13
theorem pF:∀ (x:Vl) (v:MV) (m:MM),(cT x v m).cells=m.cells/\(cT x v m).regs=m.regs/\(cT x v m).named=m.named/\(cT x v m).steps=m.steps/\(cT x v m).live=m.live/\(cT x v m).most=m.most
 | .n _,_,m=>by simp [cT]
 | .p a b,v,m=>by
  simp only [cT]
  have h1:=Dr m v
  have h2:=pF a (m.use v).1.a (m.use v).2
  have h3:=pF b (m.use v).1.b (cT a (m.use v).1.a (m.use v).2)
  exact ⟨h3.1.trans (h2.1.trans h1.1),h3.2.1.trans (h2.2.1.trans h1.2.1),h3.2.2.1.trans (h2.2.2.1.trans h1.2.2.1),h3.2.2.2.1.trans (h2.2.2.2.1.trans h1.2.2.2.1),h3.2.2.2.2.1.trans (h2.2.2.2.2.1.trans h1.2.2.2.2.1),h3.2.2.2.2.2.trans (h2.2.2.2.2.2.trans h1.2.2.2.2.2)⟩
theorem Br {fuel:Nat}:∀ (x:Vl) (v:MV) (m:MM),nG fuel m->nG fuel (cT x v m)
 | .n _,_,_,h=>h
 | .p a b,v,m,h=>by
  simp only [cT]
  exact Br b _ _ (Br a _ _ (MM.FC h v).1)
theorem aaG (u:Nat) (h:u<=9999):(decDigits u).length<=4:=by
 rw [Go.Lib.decDigits];split
 ·simp
 ·rw [Go.Lib.decDigits];split
  ·simp
  ·rw [Go.Lib.decDigits];split
   ·simp
   ·rw [Go.Lib.decDigits];split
    ·simp
    ·omega
theorem gu.len {cells:List MC}:∀ {x:Vl} {v:MV},gu cells x v->x.txt.length<=7 * x.size+4
 | .n k,_,h=>by simp only [gu] at h;simp only [Vl.txt,Vl.size];have:=aaG k h.2.2;omega
 | .p a b,_,h=>by
  simp only [gu] at h
  obtain ⟨_,i,c,_,_,ha,hb⟩:=h
  have:=gu.len ha
  have:=gu.len hb
  simp only [Vl.txt,Vl.size,List.length_cons,List.length_append,List.length_nil];omega
theorem gu.use {cells:List MC} {a b:Vl} {v:MV} (h:gu cells (.p a b) v) (m:MM) (hm:m.cells=cells):gu cells a (m.use v).1.a/\gu cells b (m.use v).1.b:=by
 simp only [gu] at h
 obtain ⟨hc,i,c,hv,hi,ha,hb⟩:=h
 have lN:=(List.getElem?_eq_some_iff.1 hi).1
 have e:(m.use v).1=c:=by
  unfold MM.use
  rw [if_neg (by rw [hc,hv,hm];simp;omega)]
  simp only
  rw [hv,hm,Int.toNat_natCast,List.getD_eq_getElem?_getD,hi];rfl
 rw [e];exact ⟨ha,hb⟩
theorem xo (mb B:Nat) (tn aO:Value) (fuel:Nat) (mG:fuel<=20000) (ns:List NR) (op:List Int) (nv cv rv:Value) (cells:List MC):∀ (x:Vl) (v:MV) (w:World) (m:MM),m.cells=cells->gu cells x v->x.size<=63->v.bd->iq mb w tn aO fuel nv cv rv m->nG fuel m->Dl mb B w nv cv rv tn aO ns op ->
  Lib.TabBelow Tryz.prog B w "internal/strconv.uint64pow10" .u64 Lib.pow10Tab->Calls Tryz.prog 69 #[ptr mb,lG v] w fun e w'=>e=.returned (.string (bs x.txt))/\bz mb mb w w' nv cv rv nv cv rv/\iq mb w' tn aO fuel nv cv rv (cT x v m)
 | .n k,v,w,m,hm,hr,hsz,Z3,hi,gZ,aZ,htab=>by
  simp only [gu] at hr
  obtain ⟨hc,hn,hk⟩:=hr
  obtain ⟨vc,vn⟩:=v
  simp only at hc hn
  subst hc
  subst hn
  have hit:=fun W (hW:Below w.heap.size w W)=>vD W (htab W (hW.mono aZ.s)) k W hk (Below.refl _ _)
  have Sb:Hid _:=hit
  have HI:Hid _:=hi
  simp only [Vl.txt,cT]
  clear hit hi gZ aZ htab Z3 hm
  unfold ptr lG
  go_enter Tryz.func69,Tryz.ntmps69
  go_wp2_with fail
  refine Calls.mono (Sb.out _ (aE (Below.refl _ _) _)) ?_
  rintro _ w2 ⟨rfl,hb2⟩
  have HB:Hid _:=(aE (Below.refl _ w) (.cells #[.bool false,.int .i64 k] 122)).trans (hb2.mono (by simp))
  clear hb2 Sb
  go_wp2
  go_ret
  exact ⟨rfl,bz.below mb mb nv cv rv HB.out,HI.out.below HB.out⟩
 | .p a b,v,w,m,hm,hr,hsz,Z3,hi,gZ,aZ,htab=>by
  have hl:=hr.len
  have R1:=hr.use m hm
  simp only [gu] at hr
  obtain ⟨hc,i,c,hn,_,_,_⟩:=hr
  simp only [Vl.size] at hsz
  have hla:=R1.1.len
  have hlb:=R1.2.len
  have XY:=fun W (hW:Below w.heap.size w W)=>Ht mb W tn aO fuel nv cv rv m v gZ mG Z3 (hi.below hW)
  have jb:=MM.FC gZ v
  have tk:=Dr m v
  have iG:=fun W h1 h2 h3=>xo mb B tn aO fuel mG ns op nv cv rv cells a (m.use v).1.a W (m.use v).2 (tk.1.trans hm) R1.1 (by omega) jb.2.1 h1 jb.1 h2 h3
  have hsa:=pF a (m.use v).1.a (m.use v).2
  have wu:=fun W h1 h2 h3=>xo mb B tn aO fuel mG ns op nv cv rv cells b (m.use v).1.b W (cT a (m.use v).1.a (m.use v).2) (hsa.1.trans (tk.1.trans hm)) R1.2 (by omega) jb.2.2 h1 (Br a _ _ jb.1) h2 h3
  have z1:(ByteArray.mk #[91]).size=1:=rfl
  have z2:(ByteArray.mk #[32]).size=1:=rfl
  have z3:(ByteArray.mk #[93]).size=1:=rfl
  have zA:(bs a.txt).size<=500:=by rw [cN];omega
  have zB:(bs b.txt).size<=500:=by rw [cN];omega
  have zC:(ByteArray.mk #[91]++bs a.txt).size<=501:=by rw [ByteArray.size_append];omega
  have zD:(ByteArray.mk #[91]++bs a.txt++ByteArray.mk #[32]).size<=502:=by rw [ByteArray.size_append];omega
  have zE:(ByteArray.mk #[91]++bs a.txt++ByteArray.mk #[32]++bs b.txt).size<=1002:=by rw [ByteArray.size_append];omega
  have hfin:ByteArray.mk #[91]++bs a.txt++ByteArray.mk #[32]++bs b.txt++ByteArray.mk #[93]=bs (Vl.txt (.p a b)):=by
   rw [show ByteArray.mk #[91]=bs [91] from rfl,show ByteArray.mk #[32]=bs [32] from rfl,show ByteArray.mk #[93]=bs [93] from rfl,eB,eB,eB,eB]
   simp [Vl.txt]
  have MI:Hid _:=hfin
  have Ux:Hid _:=XY
  have HTA:Hid _:=iG
  have KW:Hid _:=wu
  have ow:Hid _:=aZ
  have MJ:Hid _:=htab
  simp only [cT]
  clear XY iG wu tk hsa jb R1 hla hlb hl hi gZ aZ htab Z3 hm hfin hsz
  generalize m.use v=z at *
  obtain ⟨vc,vn⟩:=v
  simp only at hc hn
  subst hc
  subst hn
  unfold ptr lG at Ux
  unfold ptr lG
  go_enter Tryz.func69,Tryz.ntmps69
  go_wp2_with fail
  refine Calls.mono (Ux.out _ (aE (Below.refl _ _) _)) ?_
  rintro _ w2 ⟨rfl,hf2,qW⟩
  obtain ⟨W3,iv⟩:∃ W3,W3=w2.alloc (.cells #[.bool z.1.a.c,.int .i64 z.1.a.n,.bool z.1.b.c,.int .i64 z.1.b.n,.int .i64 z.1.home,.int .i64 z.1.gA] 154):=⟨_,rfl⟩
  have hW3:Below w2.heap.size w2 W3:=by rw [iv];exact aE (Below.refl _ _) _
  have hf3:bz mb mb w W3 nv cv rv nv cv rv:=((bz.below mb mb nv cv rv (aE (Below.refl _ w) _)).trans hf2).trans (bz.below mb mb nv cv rv hW3)
  have rW:=qW.below hW3
  have MK:=ow.out.on hf3
  have ML:Lib.TabBelow Tryz.prog B W3 "internal/strconv.uint64pow10" .u64 Lib.pow10Tab:=fun w' h'=>MJ.out w' ((ow.out.Sq hf3).trans h')
  have hs3:Beside mb w2.heap.size W3 nv cv rv (.cells #[.bool z.1.a.c,.int .i64 z.1.a.n,.bool z.1.b.c,.int .i64 z.1.b.n,.int .i64 z.1.home,.int .i64 z.1.gA] 154):=Beside.new qW (by rw [iv];exact aj w2 _) (Nat.le_refl _)
  have Wj:=HTA.out W3 rW MK ML
  have HCA:Hid _:=Wj
  have dK:Hid _:=hf3
  have MN:Hid _:=MK
  have Sv:Hid _:=ML
  have K5:Hid _:=hs3
  clear hf2 qW hW3 hf3 rW MK ML hs3 Wj Ux HTA ow MJ
  unfold ptr lG at HCA
  unfold Ms
  go_wp2_with fail
  rw [<- iv]
  refine Calls.mono HCA.out ?_
  rintro _ w4 ⟨rfl,dc,hi4⟩
  have Fk:=K5.out.keep dc
  have yQ:=KW.out w4 hi4 (MN.out.on dc) (fun w' h'=>Sv.out w' ((MN.out.Sq dc).trans h'))
  have HCB:Hid _:=yQ
  have jG:Hid _:=dK.out.trans dc
  obtain ⟨e0,e1,e2,e3,e4,e5⟩:=kW Fk.b
  have hl4:=af Fk.b
  clear iv dc hi4 Fk yQ HCA dK MN Sv K5 KW
  unfold ptr lG at HCB
  generalize w2.heap.size=p at *
  go_wp2_with fail
  refine Calls.mono HCB.out ?_
  rintro _ w5 ⟨rfl,eG,nS⟩
  have fS:Hid _:=jG.out.trans eG
  have iZ:Hid _:=nS
  clear eG nS HCB jG e0 e1 e2 e3 e4 e5 hl4
  go_wp2
  go_ret
  exact ⟨by rw [<- MI.out];rfl,fS.out,iZ.out⟩
end Go.Proofs.YtpicaknklgccoabGreatDoor
