import Derived.Test.YtpicaknklgccoabGreatDoorV28
set_option maxHeartbeats 4000000
set_option maxRecDepth 100000
namespace Go.Proofs.YtpicaknklgccoabGreatDoor
open Go.RowKit
theorem Ow (mb B:Nat) (x1:Option Addr) (n1 c1:Nat) (x2:Option Addr) (n2 c2:Nat) (fuel:Nat) (ns:List NR) (op:List Int) (i:Nat) (n:NR) (hn:ns[i]?=some n) (hform:n.form=12) (c:Nat) (g:MM->MV × MM)
  (hg:∀ (w:World) (nv cv rv:Value) (m:MM),jJ mb B w (.slice x1 n1 c1) (.slice x2 n2 c2) fuel nv cv rv m ns op c->Calls Tryz.prog 88 #[ptr mb,aK n] w (gG mb w (.slice x1 n1 c1) (.slice x2 n2 c2) fuel nv cv rv (g m)))
  (w:World) (nv cv rv:Value) (m:MM) (h:jJ mb B w (.slice x1 n1 c1) (.slice x2 n2 c2) fuel nv cv rv m ns op c) :
  Calls Tryz.prog 68 #[ptr mb,.int .i64 i] w (gG mb w (.slice x1 n1 c1) (.slice x2 n2 c2) fuel nv cv rv (g m)):=by
 obtain⟨R,hR⟩:∃ R:Obj,R=.cells #[.bool false,.int .i64 0] 122:=⟨_,rfl⟩;have hW1:Below w.heap.size w (w.alloc R):=aD (Below.refl _ _) _;have hno:=eT (w.alloc R) (.slice x1 n1 c1) (.slice x2 n2 c2) ns op (h.env.tree _ (hW1.mono h.env.s)) i n hn h.env.len;have lX:Beside mb w.heap.size (w.alloc R) nv cv rv (.cells #[.bool false,.int .i64 0] 122):=Beside.new h.i (by rw[hR];exact aj w _) (Nat.le_refl _);have h1:=h.below hW1;have eH:Hid (bL mb mb w (w.alloc R) nv cv rv nv cv rv):=bL.below mb mb nv cv rv hW1;have H1:Hid _:=h1;have kI:Hid _:=lX;have HG:Hid _:=hg
 have y0:w.cell? ⟨mb,0,none⟩=some (.slice x1 n1 c1):=by rw[aa h.i.y];rfl
 have y1:w.cell? ⟨mb,1,none⟩=some (.slice x2 n2 c2):=by rw[aa h.i.y];rfl
 have oL:=af h.i.y;have wv:Hid _:=hform
 have mG:i<=9000:=by have:=(List.getElem?_eq_some_iff.1 hn).1;have:=h.env.len;omega
 have Ok:((n.form:Int)==12)=true:=oD (b:=12) hform;clear hW1 lX h1 h hg hn hform;unfold aQ aK at hno;unfold ptr
 go_enter Tryz.func68,Tryz.ntmps68
 subst hR
 go_wp2_with fail
 refine Calls.mono hno ?_;rintro _ w2 ⟨rfl,hb2⟩;obtain⟨W3,jd⟩:∃ W3,W3=w2.alloc (.cells #[.int .i64 n.form,.int .i64 n.at_,.int .i64 n.aL,.int .i64 n.num,.string (bs n.word),.int .i64 n.region,.int .i64 n.source,.int .i64 n.p0,.int .i64 n.p1,.int .i64 n.p2] 108):=⟨_,rfl⟩
 have hb3:Below (w.alloc (.cells #[.bool false,.int .i64 0] 122)).heap.size (w.alloc (.cells #[.bool false,.int .i64 0] 122)) W3:=by rw[jd];exact hb2.alloc hb2.size _
 have h3:=H1.out.below hb3;have hf3:bL mb mb (w.alloc (.cells #[.bool false,.int .i64 0] 122)) W3 nv cv rv nv cv rv:=bL.below mb mb nv cv rv hb3;have hk:=HG.out W3 nv cv rv m h3;have HK:Hid _:=hk;have ee:Hid _:=eH.out.trans hf3;have fg:Hid _:=kI.out.keep hf3;clear hb2 hb3 h3 hf3 hk H1 eH kI HG hno y0 y1;unfold ptr aK at HK
 go_wp2_with fail
 rw[<- jd];refine Calls.mono HK.out ?_;rintro _ w5 ⟨rfl,Hm,cv5,rv5,eY,pG⟩;have gB:Hid _:=ee.out.trans eY;have jI:Hid _:=pG;have aI:=fg.out.keep eY;have dM:Hid _:=aI;have gr:w.heap.size<=w.heap.size:=Nat.le_refl _
 have x0:w5.cell? ⟨w.heap.size,0,none⟩=some (.bool false):=by rw[aa aI.b];rfl
 have x1:w5.cell? ⟨w.heap.size,1,none⟩=some (.int .i64 0):=by rw[aa aI.b];rfl
 have g0:w5.frozen? ⟨w.heap.size,0,none⟩=false:=ag aI.b 0;have g1:w5.frozen? ⟨w.heap.size,1,none⟩=false:=ag aI.b 1;have CL:=af aI.b;clear eY pG aI HK ee fg jd oL;generalize g m=res at *;unfold ml
 go_wp2
 have aY:=dM.out;have ku:=(jI.out.beside aY.ne aY.n aY.c aY.r 0 (.bool res.1.c)).beside aY.ne aY.n aY.c aY.r 1 (.int .i64 res.1.n);have ju:=(gB.out.upto (aw (aw (Below.refl _ _) ⟨w.heap.size,0,none⟩ gr (.bool res.1.c)) ⟨w.heap.size,1,none⟩ gr (.int .i64 res.1.n)));refine bodyPost_ret (v:=.agg #[.bool res.1.c,.int .i64 res.1.n]) (by simp[results,Tryz.results68,go_sem,x0,x1]) rfl ⟨rfl,_,_,_,ju,ku⟩
theorem eW (mb B:Nat) (x1:Option Addr) (n1 c1:Nat) (x2:Option Addr) (n2 c2:Nat) (fuel:Nat) (ns:List NR) (op:List Int) (i:Nat) (n:NR) (hn:ns[i]?=some n) (hform:n.form≠12) (c:Nat) (g:MM->MV × MM)
  (hg:∀ (w:World) (nv cv rv:Value) (m:MM),jJ mb B w (.slice x1 n1 c1) (.slice x2 n2 c2) fuel nv cv rv m ns op c->Calls Tryz.prog 89 #[ptr mb,aK n] w (gG mb w (.slice x1 n1 c1) (.slice x2 n2 c2) fuel nv cv rv (g m)))
  (w:World) (nv cv rv:Value) (m:MM) (h:jJ mb B w (.slice x1 n1 c1) (.slice x2 n2 c2) fuel nv cv rv m ns op c) :
  Calls Tryz.prog 68 #[ptr mb,.int .i64 i] w (gG mb w (.slice x1 n1 c1) (.slice x2 n2 c2) fuel nv cv rv (g m)):=by
 obtain⟨R,hR⟩:∃ R:Obj,R=.cells #[.bool false,.int .i64 0] 122:=⟨_,rfl⟩;have hW1:Below w.heap.size w (w.alloc R):=aD (Below.refl _ _) _;have hno:=eT (w.alloc R) (.slice x1 n1 c1) (.slice x2 n2 c2) ns op (h.env.tree _ (hW1.mono h.env.s)) i n hn h.env.len;have lX:Beside mb w.heap.size (w.alloc R) nv cv rv (.cells #[.bool false,.int .i64 0] 122):=Beside.new h.i (by rw[hR];exact aj w _) (Nat.le_refl _);have h1:=h.below hW1;have eH:Hid (bL mb mb w (w.alloc R) nv cv rv nv cv rv):=bL.below mb mb nv cv rv hW1;have H1:Hid _:=h1;have kI:Hid _:=lX;have HG:Hid _:=hg
 have y0:w.cell? ⟨mb,0,none⟩=some (.slice x1 n1 c1):=by rw[aa h.i.y];rfl
 have y1:w.cell? ⟨mb,1,none⟩=some (.slice x2 n2 c2):=by rw[aa h.i.y];rfl
 have oL:=af h.i.y;have wv:Hid _:=hform
 have mG:i<=9000:=by have:=(List.getElem?_eq_some_iff.1 hn).1;have:=h.env.len;omega
 have Ok:((n.form:Int)==12)=false:=lh (b:=12) hform;clear hW1 lX h1 h hg hn hform;unfold aQ aK at hno;unfold ptr
 go_enter Tryz.func68,Tryz.ntmps68
 subst hR
 go_wp2_with fail
 refine Calls.mono hno ?_;rintro _ w2 ⟨rfl,hb2⟩;obtain⟨W3,jd⟩:∃ W3,W3=w2.alloc (.cells #[.int .i64 n.form,.int .i64 n.at_,.int .i64 n.aL,.int .i64 n.num,.string (bs n.word),.int .i64 n.region,.int .i64 n.source,.int .i64 n.p0,.int .i64 n.p1,.int .i64 n.p2] 108):=⟨_,rfl⟩
 have hb3:Below (w.alloc (.cells #[.bool false,.int .i64 0] 122)).heap.size (w.alloc (.cells #[.bool false,.int .i64 0] 122)) W3:=by rw[jd];exact hb2.alloc hb2.size _
 have h3:=H1.out.below hb3;have hf3:bL mb mb (w.alloc (.cells #[.bool false,.int .i64 0] 122)) W3 nv cv rv nv cv rv:=bL.below mb mb nv cv rv hb3;have hk:=HG.out W3 nv cv rv m h3;have HK:Hid _:=hk;have ee:Hid _:=eH.out.trans hf3;have fg:Hid _:=kI.out.keep hf3;clear hb2 hb3 h3 hf3 hk H1 eH kI HG hno y0 y1;unfold ptr aK at HK
 go_wp2_with fail
 rw[<- jd];refine Calls.mono HK.out ?_;rintro _ w5 ⟨rfl,Hm,cv5,rv5,eY,pG⟩;have gB:Hid _:=ee.out.trans eY;have jI:Hid _:=pG;have aI:=fg.out.keep eY;have dM:Hid _:=aI;have gr:w.heap.size<=w.heap.size:=Nat.le_refl _
 have x0:w5.cell? ⟨w.heap.size,0,none⟩=some (.bool false):=by rw[aa aI.b];rfl
 have x1:w5.cell? ⟨w.heap.size,1,none⟩=some (.int .i64 0):=by rw[aa aI.b];rfl
 have g0:w5.frozen? ⟨w.heap.size,0,none⟩=false:=ag aI.b 0;have g1:w5.frozen? ⟨w.heap.size,1,none⟩=false:=ag aI.b 1;have CL:=af aI.b;clear eY pG aI HK ee fg jd oL;generalize g m=res at *;unfold ml
 go_wp2
 have aY:=dM.out;have ku:=(jI.out.beside aY.ne aY.n aY.c aY.r 0 (.bool res.1.c)).beside aY.ne aY.n aY.c aY.r 1 (.int .i64 res.1.n);have ju:=(gB.out.upto (aw (aw (Below.refl _ _) ⟨w.heap.size,0,none⟩ gr (.bool res.1.c)) ⟨w.heap.size,1,none⟩ gr (.int .i64 res.1.n)));refine bodyPost_ret (v:=.agg #[.bool res.1.c,.int .i64 res.1.n]) (by simp[results,Tryz.results68,go_sem,x0,x1]) rfl ⟨rfl,_,_,_,ju,ku⟩
mutual
def l6 (ns:List NR):Sc->PT->Nat->Prop
 | _,.num _ s,base=>∃ n,ns[base]?=some n/\n.form=1/\n.num=ak s
 | sc,.name _ s,base=>∃ n,ns[base]?=some n/\n.form=2/\n.source=cE sc s
 | sc,.node _ k nm rg kids,base=>(∃ n,ns[base+ax kids]?=some n/\n.form=aZ k/\n.region=ak rg/\n.p0=(az kids base).getD 0 (-1)/\n.p1=(az kids base).getD 1 (-1)/\n.p2=(az kids base).getD 2 (-1))/\gH ns sc nm kids (bU k) base
def gH (ns:List NR):Sc->List UInt8->List PT->List Bool->Nat->Prop
 | _,_,[],_,_=>True
 | _,_,_::_,[],_=>False
 | sc,nm,t::r,b::bs,base=>l6 ns (if b then sc++[(nm,(base:Int)-1)] else sc) t base/\gH ns sc nm r bs (base+t.cnt)
end
theorem CO {α:Type} (pre a post:List α) (j:Nat) (x:α) (h:a[j]?=some x):(pre++(a++post))[pre.length+j]?=some x:=by
 have hj:=(List.getElem?_eq_some_iff.1 h).1;rw[List.getElem?_append_right (by omega),Nat.add_sub_cancel_left,List.getElem?_append_left hj];exact h
mutual
theorem NA.yZ:∀ {scope:Sc} {t:PT} {base:Nat} {ms:List NR},NA scope t base ms->∀ (pre post:List NR),pre.length=base->l6 (pre++(ms++post)) scope t base
 | _,.num _ s,_,_,h,pre,post,hb=>by
  simp only[NA] at h;subst h;subst hb;simp only[l6];exact⟨_,CO pre _ post 0 _ rfl,rfl,rfl⟩
 | _,.name _ s,_,_,h,pre,post,hb=>by
  simp only[NA] at h;subst h;subst hb;simp only[l6];exact⟨_,CO pre _ post 0 _ rfl,rfl,rfl⟩
 | _,.node p k nm rg kids,base,_,h,pre,post,hb=>by
  simp only[NA] at h;obtain⟨ks,aL,h1,rfl⟩:=h;have hl:=cK.len h1;simp only[l6];refine⟨⟨⟨aZ k,p,aL,0,nm,ak rg,-1,(az kids base).getD 0 (-1),(az kids base).getD 1 (-1),(az kids base).getD 2 (-1)⟩,?_,rfl,rfl,rfl,rfl,rfl⟩,?_⟩
  ·rw[<- hl];conv=>lhs;rw[show base+ks.length=pre.length+ks.length from by rw[hb]]
   refine CO pre _ post ks.length _ ?_;rw[List.getElem?_append_right (Nat.le_refl _),Nat.sub_self];rfl
  ·have h2:=cK.yZ h1 pre (⟨aZ k,p,aL,0,nm,ak rg,-1,(az kids base).getD 0 (-1),(az kids base).getD 1 (-1),(az kids base).getD 2 (-1)⟩::post) hb
   rw[List.append_assoc,List.singleton_append];exact h2
theorem cK.yZ:∀ {scope:Sc} {nm:List UInt8} {ts:List PT} {bs:List Bool} {base:Nat} {ms:List NR},cK scope nm ts bs base ms->∀ (pre post:List NR),pre.length=base->gH (pre++(ms++post)) scope nm ts bs base
 | _,_,[],_,_,_,_,_,_,_=>by simp[gH]
 | _,_,_::_,[],_,_,h,_,_,_=>by simp[cK] at h
 | _,_,t::r,b::bs,_,_,h,pre,post,hb=>by
  simp only[cK] at h;obtain⟨a,c,h1,h2,rfl⟩:=h;have hl:=NA.len h1;simp only[gH]
  constructor
  ·have:=NA.yZ h1 pre (c++post) hb
   rw[List.append_assoc];exact this
  ·have:=cK.yZ h2 (pre++a) post (by rw[List.length_append,hl,hb])
   simp only[List.append_assoc] at this ⊢;exact this
end
theorem NA.RR {scope:Sc} {t:PT} {ns:List NR} (h:NA scope t 0 ns):l6 ns scope t 0:=by
 have:=NA.yZ h [] [] rfl
 simpa using this
def LJ (sc:Sc):Prop:=∀ x∈sc,-1<=x.2/\x.2<=9000
theorem LJ.find {sc:Sc} (h:LJ sc) (s:List UInt8):-1<=cE sc s/\cE sc s<=9000:=by
 unfold cE
 split
 ·rename_i x hx
  exact h x (by have:=List.mem_of_find?_eq_some hx;simpa using this)
 ·omega
theorem LJ.snoc {sc:Sc} (h:LJ sc) (nm:List UInt8) (i:Int) (hi:-1<=i/\i<=9000):LJ (sc++[(nm,i)]):=by
 intro x hx;rw[List.mem_append,List.mem_singleton] at hx
 rcases hx with hx | rfl
 ·exact h x hx
 ·exact hi
def ze (mb B:Nat) (x1:Option Addr) (n1 c1:Nat) (x2:Option Addr) (n2 c2:Nat) (fuel:Nat) (ns:List NR) (op:List Int) (t:PT):Prop :=
 ∀ (sc:Sc) (base:Nat),l6 ns sc t base->LJ sc->t.wf->t.iE->base+t.cnt<=ns.length->ns.length<=9000->fuel<=20000->gV mb B (.slice x1 n1 c1) (.slice x2 n2 c2) fuel ns op (((base+t.cnt:Nat):Int)-1) t.cnt (λm=>mW fuel t sc base m)
theorem Ox (mb B:Nat) (x1:Option Addr) (n1 c1:Nat) (x2:Option Addr) (n2 c2:Nat) (fuel:Nat) (ns:List NR) (op:List Int) (p:Nat) (s:List UInt8):ze mb B x1 n1 c1 x2 n2 c2 fuel ns op (.num p s):=by
 intro sc base hs hsc hw hr hle AU hf w nv cv rv m h;refine⟨dP fuel hf _ sc base m hw hr h.bd h.rl,?_⟩;simp only[l6] at hs;obtain⟨n,hn,hfm,rG⟩:=hs;simp only[PT.cnt] at h ⊢;rw[show (((base+1:Nat):Int)-1)=(base:Int) from by omega];have:=eW mb B x1 n1 c1 x2 n2 c2 fuel ns op base n hn (by rw[hfm];decide) 1 (λm=>bn fuel m (λm=>(⟨false,n.num⟩,m))) (λw nv cv rv m h=>We mb B _ _ fuel ns op n hfm 1 w nv cv rv m h) w nv cv rv m h;rw[rG] at this;simp only[mW];exact this
theorem LK (mb B:Nat) (x1:Option Addr) (n1 c1:Nat) (x2:Option Addr) (n2 c2:Nat) (fuel:Nat) (ns:List NR) (op:List Int) (p:Nat) (s:List UInt8):ze mb B x1 n1 c1 x2 n2 c2 fuel ns op (.name p s):=by
 intro sc base hs hsc hw hr hle AU hf w nv cv rv m h;refine⟨dP fuel hf _ sc base m hw hr h.bd h.rl,?_⟩;simp only[l6] at hs;obtain⟨n,hn,hfm,hsrc⟩:=hs;simp only[PT.cnt] at h ⊢;rw[show (((base+1:Nat):Int)-1)=(base:Int) from by omega];have:=eW mb B x1 n1 c1 x2 n2 c2 fuel ns op base n hn (by rw[hfm];decide) 1 (λm=>bn fuel m (λm=>(m.look n.source,m))) (λw nv cv rv m h=>Wf mb B _ _ fuel ns op n hfm 1 (by rw[hsrc];exact hsc.find s) w nv cv rv m h) w nv cv rv m h;rw[hsrc] at this;simp only[mW];exact this
theorem LL (mb B:Nat) (x1:Option Addr) (n1 c1:Nat) (x2:Option Addr) (n2 c2:Nat) (fuel:Nat) (ns:List NR) (op:List Int) (p:Nat) (k:Kw) (nm rg:List UInt8) (kids:List PT) (ih:∀ x∈kids,ze mb B x1 n1 c1 x2 n2 c2 fuel ns op x):ze mb B x1 n1 c1 x2 n2 c2 fuel ns op (.node p k nm rg kids):=by
 intro sc base hs hsc hw hr hle AU hf w nv cv rv m h;refine⟨dP fuel hf _ sc base m hw hr h.bd h.rl,?_⟩;simp only[l6] at hs;obtain⟨⟨n,hn,hfm,hrg,nT,fk,oU⟩,hks⟩:=hs;simp only[PT.wf] at hw;simp only[PT.iE] at hr;simp only[PT.cnt] at h hle ⊢;rw[show (((base+(1+ax kids):Nat):Int)-1)=((base+ax kids:Nat):Int) from by omega]
 cases k with
 | aP =>
  match kids,hw.1,ih with
  | [a,b],_,ih =>
   simp only[bU,gH,if_true,Bool.false_eq_true,if_false] at hks;simp only[qO] at hw;simp only[cJ] at hr;simp only[ax,Nat.add_zero] at hle hn h ⊢;simp only[az,List.getD_cons_zero,List.getD_cons_succ] at nT fk;have ha:=ih a (by simp) sc base hks.1 hsc hw.2.1 hr.2.1 (by omega) AU hf;have hb:=ih b (by simp) _ (base+a.cnt) hks.2.1 (hsc.snoc _ _ (by omega)) hw.2.2.1 hr.2.2.1 (by omega) AU hf;rw[<- nT] at ha;rw[<- fk] at hb
   have hwl:=λw nv cv rv m h=>ES mb B _ _ fuel ns op n a.cnt b.cnt _ _ (by rw[nT];omega) ha hb w nv cv rv m (jJ.less (c:=1+(a.cnt+b.cnt)) h (by omega))
   have:=eW mb B x1 n1 c1 x2 n2 c2 fuel ns op (base+(a.cnt+b.cnt)) n hn (by rw[hfm];decide) (1+(a.cnt+b.cnt)) _ (λw nv cv rv m h=>V7 mb B _ _ fuel ns op n hfm (1+(a.cnt+b.cnt)) _ hwl w nv cv rv m h) w nv cv rv m h;rw[nT] at this;simp only[mW,ud,if_true,reduceCtorEq,if_false];exact this
 | pair =>
  match kids,hw.1,ih with
  | [a,b],_,ih =>
   simp only[bU,gH,Bool.false_eq_true,if_false] at hks;simp only[qO] at hw;simp only[cJ] at hr;simp only[ax,Nat.add_zero] at hle hn h ⊢;simp only[az,List.getD_cons_zero,List.getD_cons_succ] at nT fk;have ha:=ih a (by simp) sc base hks.1 hsc hw.2.1 hr.2.1 (by omega) AU hf;have hb:=ih b (by simp) _ (base+a.cnt) hks.2.1 hsc hw.2.2.1 hr.2.2.1 (by omega) AU hf;rw[<- nT] at ha;rw[<- fk] at hb
   have hwl:=λw nv cv rv m h=>CM mb B _ _ fuel ns op n a.cnt b.cnt _ _ ha hb w nv cv rv m (jJ.less (c:=1+(a.cnt+b.cnt)) h (by omega))
   have:=eW mb B x1 n1 c1 x2 n2 c2 fuel ns op (base+(a.cnt+b.cnt)) n hn (by rw[hfm];decide) (1+(a.cnt+b.cnt)) _ (λw nv cv rv m h=>V8 mb B _ _ fuel ns op n hfm (1+(a.cnt+b.cnt)) _ hwl w nv cv rv m h) w nv cv rv m h;rw[hrg] at this;simp only[mW,gu,if_true,reduceCtorEq,if_false];exact this
 | fst =>
  match kids,hw.1,ih with
  | [a],_,ih =>
   simp only[bU,gH,Bool.false_eq_true,if_false] at hks;simp only[qO] at hw;simp only[cJ] at hr;simp only[ax,Nat.add_zero] at hle hn h ⊢;simp only[az,List.getD_cons_zero] at nT;have ha:=ih a (by simp) sc base hks.1 hsc hw.2.1 hr.2.1 (by omega) AU hf;rw[<- nT] at ha
   have hwl:=λw nv cv rv m h=>uu mb B _ _ fuel ns op n a.cnt _ ha w nv cv rv m (jJ.less (c:=1+a.cnt) h (by omega))
   have:=eW mb B x1 n1 c1 x2 n2 c2 fuel ns op (base+a.cnt) n hn (by rw[hfm];decide) (1+a.cnt) _ (λw nv cv rv m h=>V9 mb B _ _ fuel ns op n hfm (1+a.cnt) _ hwl w nv cv rv m h) w nv cv rv m h;simp only[if_pos (show n.form=5 from hfm)] at this;simp only[mW,gu,if_true,reduceCtorEq,if_false];exact this
 | snd =>
  match kids,hw.1,ih with
  | [a],_,ih =>
   simp only[bU,gH,Bool.false_eq_true,if_false] at hks;simp only[qO] at hw;simp only[cJ] at hr;simp only[ax,Nat.add_zero] at hle hn h ⊢;simp only[az,List.getD_cons_zero] at nT;have ha:=ih a (by simp) sc base hks.1 hsc hw.2.1 hr.2.1 (by omega) AU hf;rw[<- nT] at ha
   have hwl:=λw nv cv rv m h=>uu mb B _ _ fuel ns op n a.cnt _ ha w nv cv rv m (jJ.less (c:=1+a.cnt) h (by omega))
   have:=eW mb B x1 n1 c1 x2 n2 c2 fuel ns op (base+a.cnt) n hn (by rw[hfm];decide) (1+a.cnt) _ (λw nv cv rv m h=>Wa mb B _ _ fuel ns op n hfm (1+a.cnt) _ hwl w nv cv rv m h) w nv cv rv m h;simp only[if_neg (show n.form≠5 by rw[hfm];decide)] at this;simp only[mW,gu,reduceCtorEq,if_false];exact this
 | di =>
  match kids,hw.1,ih with
  | [a,b,c],_,ih =>
   simp only[bU,gH,Bool.false_eq_true,if_false] at hks;simp only[qO] at hw;simp only[cJ] at hr;simp only[ax,Nat.add_zero] at hle hn h ⊢;simp only[az,List.getD_cons_zero,List.getD_cons_succ] at nT fk oU;have ha:=ih a (by simp) sc base hks.1 hsc hw.2.1 hr.2.1 (by omega) AU hf;have hb:=ih b (by simp) _ (base+a.cnt) hks.2.1 hsc hw.2.2.1 hr.2.2.1 (by omega) AU hf;have hc:=ih c (by simp) _ (base+a.cnt+b.cnt) hks.2.2.1 hsc hw.2.2.2.1 hr.2.2.2.1 (by omega) AU hf;rw[<- nT] at ha;rw[<- fk] at hb;rw[<- oU] at hc
   have hwl:=λw nv cv rv m h=>Io mb B _ _ fuel ns op n a.cnt b.cnt _ _ _ ha hb c.cnt hc w nv cv rv m (jJ.less (c:=1+(a.cnt+(b.cnt+c.cnt))) h (by omega))
   have:=eW mb B x1 n1 c1 x2 n2 c2 fuel ns op (base+(a.cnt+(b.cnt+c.cnt))) n hn (by rw[hfm];decide) (1+(a.cnt+(b.cnt+c.cnt))) _ (λw nv cv rv m h=>Wb mb B _ _ fuel ns op n hfm (1+(a.cnt+(b.cnt+c.cnt))) _ hwl w nv cv rv m h) w nv cv rv m h;simp only[mW,Hs,if_true,reduceCtorEq,if_false];exact this
 | loop =>
  match kids,hw.1,ih with
  | [a,b,c],_,ih =>
   simp only[bU,gH,if_true,Bool.false_eq_true,if_false] at hks;simp only[qO] at hw;simp only[cJ] at hr;simp only[ax,Nat.add_zero] at hle hn h ⊢;simp only[az,List.getD_cons_zero,List.getD_cons_succ] at nT fk oU;have ha:=ih a (by simp) sc base hks.1 hsc hw.2.1 hr.2.1 (by omega) AU hf;have hb:=ih b (by simp) _ (base+a.cnt) hks.2.1 hsc hw.2.2.1 hr.2.2.1 (by omega) AU hf;have hc:=ih c (by simp) _ (base+a.cnt+b.cnt) hks.2.2.1 (hsc.snoc _ _ (by omega)) hw.2.2.2.1 hr.2.2.2.1 (by omega) AU hf;rw[<- nT] at ha;rw[<- fk] at hb;rw[<- oU] at hc
   have hwl:=λw nv cv rv m h=>CN mb B _ _ fuel ns op n (by rw[fk];omega) a.cnt b.cnt c.cnt _ _ _ ha hb (by omega) hc w nv cv rv m (jJ.less (c:=1+(a.cnt+(b.cnt+c.cnt))) h (by omega))
   have:=eW mb B x1 n1 c1 x2 n2 c2 fuel ns op (base+(a.cnt+(b.cnt+c.cnt))) n hn (by rw[hfm];decide) (1+(a.cnt+(b.cnt+c.cnt))) _ (λw nv cv rv m h=>RQ mb B _ _ fuel ns op n hfm (1+(a.cnt+(b.cnt+c.cnt))) _ hwl w nv cv rv m h) w nv cv rv m h;rw[fk] at this;simp only[mW,lT,if_true,reduceCtorEq,if_false];exact this
 | new =>
  match kids,hw.1,ih with
  | [a],_,ih =>
   simp only[bU,gH,Bool.false_eq_true,if_false] at hks;simp only[qO] at hw;simp only[cJ] at hr;simp only[ax,Nat.add_zero] at hle hn h ⊢;simp only[az,List.getD_cons_zero] at nT;have ha:=ih a (by simp) sc base hks.1 hsc hw.2.1 hr.2.1 (by omega) AU hf;rw[<- nT] at ha;have:=Ow mb B x1 n1 c1 x2 n2 c2 fuel ns op (base+a.cnt) n hn hfm (1+a.cnt) _ (λw nv cv rv m h=>ET mb B _ _ fuel ns op n (by rw[hrg];omega) a.cnt _ ha w nv cv rv m h) w nv cv rv m h;rw[hrg] at this;simp only[mW,rL,if_true];exact this
 | _ =>
  match kids,hw.1,ih with
  | [a,b],_,ih =>
   simp only[bU,gH,Bool.false_eq_true,if_false] at hks;simp only[qO] at hw;simp only[cJ] at hr;simp only[ax,Nat.add_zero] at hle hn h ⊢;simp only[az,List.getD_cons_zero,List.getD_cons_succ] at nT fk;have ha:=ih a (by simp) sc base hks.1 hsc hw.2.1 hr.2.1 (by omega) AU hf;have hb:=ih b (by simp) _ (base+a.cnt) hks.2.1 hsc hw.2.2.1 hr.2.2.1 (by omega) AU hf;rw[<- nT] at ha;rw[<- fk] at hb
   have hwl:=λw nv cv rv m h=>wN mb B _ _ fuel ns op n a.cnt b.cnt _ _ ha hb w nv cv rv m (jJ.less (c:=1+(a.cnt+b.cnt)) h (by omega))
   first
   | (have:=eW mb B x1 n1 c1 x2 n2 c2 fuel ns op (base+(a.cnt+b.cnt)) n hn (by rw[hfm];decide) (1+(a.cnt+b.cnt)) _ (λw nv cv rv m h=>Wc mb B _ _ fuel ns op n hfm (1+(a.cnt+b.cnt)) _ hwl w nv cv rv m h) w nv cv rv m h
      simp only[hfm] at this;simp only[mW,gu,reduceCtorEq,if_false]
      exact this)
   | (have:=eW mb B x1 n1 c1 x2 n2 c2 fuel ns op (base+(a.cnt+b.cnt)) n hn (by rw[hfm];decide) (1+(a.cnt+b.cnt)) _ (λw nv cv rv m h=>Wd mb B _ _ fuel ns op n hfm (1+(a.cnt+b.cnt)) _ hwl w nv cv rv m h) w nv cv rv m h
      simp only[hfm] at this;simp only[mW,gu,reduceCtorEq,if_false]
      exact this)
   | (have:=eW mb B x1 n1 c1 x2 n2 c2 fuel ns op (base+(a.cnt+b.cnt)) n hn (by rw[hfm];decide) (1+(a.cnt+b.cnt)) _ (λw nv cv rv m h=>RP mb B _ _ fuel ns op n hfm (1+(a.cnt+b.cnt)) _ hwl w nv cv rv m h) w nv cv rv m h
      simp only[hfm] at this;simp only[mW,gu,reduceCtorEq,if_false]
      exact this)
theorem Oy (mb B:Nat) (x1:Option Addr) (n1 c1:Nat) (x2:Option Addr) (n2 c2:Nat) (fuel:Nat) (ns:List NR) (op:List Int) (t:PT):ze mb B x1 n1 c1 x2 n2 c2 fuel ns op t:=by
 induction t using PT.ind with
 | h1 p s=>exact Ox mb B x1 n1 c1 x2 n2 c2 fuel ns op p s
 | h2 p s=>exact LK mb B x1 n1 c1 x2 n2 c2 fuel ns op p s
 | h3 p k nm rg kids ih=>exact LL mb B x1 n1 c1 x2 n2 c2 fuel ns op p k nm rg kids ih
open Go.Lib (decDigits)
def dz:Vl->MV->MM->MM
 | .n _,_,m=>m
 | .p a b,v,m=>dz b (m.use v).1.b (dz a (m.use v).1.a (m.use v).2)
theorem LM (m:MM) (f:Nat):(m.stop f).cells=m.cells/\(m.stop f).regs=m.regs/\(m.stop f).named=m.named/\(m.stop f).steps=m.steps/\(m.stop f).live=m.live/\(m.stop f).most=m.most:=by unfold MM.stop;split <;> simp
theorem EV (m:MM) (v:MV):(m.use v).2.cells=m.cells/\(m.use v).2.regs=m.regs/\(m.use v).2.named=m.named/\(m.use v).2.steps=m.steps/\(m.use v).2.live=m.live/\(m.use v).2.most=m.most:=by
 unfold MM.use;split
 ·simp
 ·simp only;split
  ·simp
  ·exact LM m 13
theorem rf:∀ (x:Vl) (v:MV) (m:MM),(dz x v m).cells=m.cells/\(dz x v m).regs=m.regs/\(dz x v m).named=m.named/\(dz x v m).steps=m.steps/\(dz x v m).live=m.live/\(dz x v m).most=m.most
 | .n _,_,m=>by simp[dz]
 | .p a b,v,m=>by
  simp only[dz];have h1:=EV m v;have h2:=rf a (m.use v).1.a (m.use v).2;have h3:=rf b (m.use v).1.b (dz a (m.use v).1.a (m.use v).2);exact⟨h3.1.trans (h2.1.trans h1.1),h3.2.1.trans (h2.2.1.trans h1.2.1),h3.2.2.1.trans (h2.2.2.1.trans h1.2.2.1),h3.2.2.2.1.trans (h2.2.2.2.1.trans h1.2.2.2.1),h3.2.2.2.2.1.trans (h2.2.2.2.2.1.trans h1.2.2.2.2.1),h3.2.2.2.2.2.trans (h2.2.2.2.2.2.trans h1.2.2.2.2.2)⟩
theorem CP {fuel:Nat}:∀ (x:Vl) (v:MV) (m:MM),oO fuel m->oO fuel (dz x v m)
 | .n _,_,_,h=>h
 | .p a b,v,m,h=>by
  simp only[dz];exact CP b _ _ (CP a _ _ (MM.Hv h v).1)
theorem abG (u:Nat) (h:u<=9999):(decDigits u).length<=4:=by
 rw[Go.Lib.decDigits];split
 ·simp
 ·rw[Go.Lib.decDigits];split
  ·simp
  ·rw[Go.Lib.decDigits];split
   ·simp
   ·rw[Go.Lib.decDigits];split
    ·simp
    ·omega
theorem gP.len {cells:List MC}:∀ {x:Vl} {v:MV},gP cells x v->x.txt.length<=7*x.size+4
 | .n k,_,h=>by simp only[gP] at h;simp only[Vl.txt,Vl.size];have:=abG k h.2.2;omega
 | .p a b,_,h=>by
  simp only[gP] at h;obtain⟨_,i,c,_,_,ha,hb⟩:=h;have:=gP.len ha;have:=gP.len hb;simp only[Vl.txt,Vl.size,List.length_cons,List.length_append,List.length_nil];omega
theorem gP.use {cells:List MC} {a b:Vl} {v:MV} (h:gP cells (.p a b) v) (m:MM) (hm:m.cells=cells):gP cells a (m.use v).1.a/\gP cells b (m.use v).1.b:=by
 simp only[gP] at h;obtain⟨hc,i,c,hv,hi,ha,hb⟩:=h;have mG:=(List.getElem?_eq_some_iff.1 hi).1
 have e:(m.use v).1=c:=by
  unfold MM.use;rw[if_neg (by rw[hc,hv,hm];simp;omega)];simp only;rw[hv,hm,Int.toNat_natCast,List.getD_eq_getElem?_getD,hi];rfl
 rw[e];exact⟨ha,hb⟩
theorem zg (mb B:Nat) (tn aS:Value) (fuel:Nat) (nH:fuel<=20000) (ns:List NR) (op:List Int) (nv cv rv:Value) (cells:List MC):∀ (x:Vl) (v:MV) (w:World) (m:MM),m.cells=cells->gP cells x v->x.size<=63->v.bd->jc mb w tn aS fuel nv cv rv m->oO fuel m->EO mb B w nv cv rv tn aS ns op ->
  Lib.TabBelow Tryz.prog B w "internal/strconv.uint64pow10" .u64 Lib.pow10Tab->Calls Tryz.prog 69 #[ptr mb,ml v] w λe w'=>e=.returned (.string (bs x.txt))/\bL mb mb w w' nv cv rv nv cv rv/\jc mb w' tn aS fuel nv cv rv (dz x v m)
 | .n k,v,w,m,hm,hr,hsz,hvb,hi,iW,bq,htab=>by
  simp only[gP] at hr;obtain⟨hc,hn,hk⟩:=hr;obtain⟨vc,vn⟩:=v;simp only at hc hn;subst hc;subst hn
  have hit:=λW (hW:Below w.heap.size w W)=>wV W (htab W (hW.mono bq.s)) k W hk (Below.refl _ _)
  have Uf:Hid _:=hit;have HI:Hid _:=hi;simp only[Vl.txt,dz];clear hit hi iW bq htab hvb hm;unfold ptr ml
  go_enter Tryz.func69,Tryz.ntmps69
  go_wp2_with fail
  refine Calls.mono (Uf.out _ (aD (Below.refl _ _) _)) ?_;rintro _ w2 ⟨rfl,hb2⟩;have HB:Hid _:=(aD (Below.refl _ w) (.cells #[.bool false,.int .i64 k] 122)).trans (hb2.mono (by simp));clear hb2 Uf
  go_wp2
  go_ret
  exact⟨rfl,bL.below mb mb nv cv rv HB.out,HI.out.below HB.out⟩
 | .p a b,v,w,m,hm,hr,hsz,hvb,hi,iW,bq,htab=>by
  have hl:=hr.len;have TA:=hr.use m hm;simp only[gP] at hr;obtain⟨hc,i,c,hn,_,_,_⟩:=hr;simp only[Vl.size] at hsz;have hla:=TA.1.len;have hlb:=TA.2.len
  have ZE:=λW (hW:Below w.heap.size w W)=>JQ mb W tn aS fuel nv cv rv m v iW nH hvb (hi.below hW)
  have jK:=MM.Hv iW v;have uO:=EV m v
  have jQ:=λW h1 h2 h3=>zg mb B tn aS fuel nH ns op nv cv rv cells a (m.use v).1.a W (m.use v).2 (uO.1.trans hm) TA.1 (by omega) jK.2.1 h1 jK.1 h2 h3
  have hsa:=rf a (m.use v).1.a (m.use v).2
  have uZ:=λW h1 h2 h3=>zg mb B tn aS fuel nH ns op nv cv rv cells b (m.use v).1.b W (dz a (m.use v).1.a (m.use v).2) (hsa.1.trans (uO.1.trans hm)) TA.2 (by omega) jK.2.2 h1 (CP a _ _ jK.1) h2 h3
  have z1:(ByteArray.mk #[91]).size=1:=rfl;have z2:(ByteArray.mk #[32]).size=1:=rfl;have z3:(ByteArray.mk #[93]).size=1:=rfl
  have zA:(bs a.txt).size<=500:=by rw[bE];omega
  have zB:(bs b.txt).size<=500:=by rw[bE];omega
  have zC:(ByteArray.mk #[91]++bs a.txt).size<=501:=by rw[ByteArray.size_append];omega
  have zD:(ByteArray.mk #[91]++bs a.txt++ByteArray.mk #[32]).size<=502:=by rw[ByteArray.size_append];omega
  have zE:(ByteArray.mk #[91]++bs a.txt++ByteArray.mk #[32]++bs b.txt).size<=1002:=by rw[ByteArray.size_append];omega
  have hfin:ByteArray.mk #[91]++bs a.txt++ByteArray.mk #[32]++bs b.txt++ByteArray.mk #[93]=bs (Vl.txt (.p a b)):=by
   rw[show ByteArray.mk #[91]=bs [91] from rfl,show ByteArray.mk #[32]=bs [32] from rfl,show ByteArray.mk #[93]=bs [93] from rfl,bD,bD,bD,bD];simp[Vl.txt]
  have yG:Hid _:=hfin;have V3:Hid _:=ZE;have HTA:Hid _:=jQ;have Mt:Hid _:=uZ;have qx:Hid _:=bq;have Oz:Hid _:=htab;simp only[dz];clear ZE jQ uZ uO hsa jK TA hla hlb hl hi iW bq htab hvb hm hfin hsz;generalize m.use v=z at *;obtain⟨vc,vn⟩:=v;simp only at hc hn;subst hc;subst hn;unfold ptr ml at V3;unfold ptr ml
  go_enter Tryz.func69,Tryz.ntmps69
  go_wp2_with fail
  refine Calls.mono (V3.out _ (aD (Below.refl _ _) _)) ?_;rintro _ w2 ⟨rfl,hf2,qq⟩;obtain⟨W3,jd⟩:∃ W3,W3=w2.alloc (.cells #[.bool z.1.a.c,.int .i64 z.1.a.n,.bool z.1.b.c,.int .i64 z.1.b.n,.int .i64 z.1.home,.int .i64 z.1.gO] 154):=⟨_,rfl⟩
  have hW3:Below w2.heap.size w2 W3:=by rw[jd];exact aD (Below.refl _ _) _
  have hf3:bL mb mb w W3 nv cv rv nv cv rv:=((bL.below mb mb nv cv rv (aD (Below.refl _ w) _)).trans hf2).trans (bL.below mb mb nv cv rv hW3);have tF:=qq.below hW3;have OA:=qx.out.on hf3
  have OB:Lib.TabBelow Tryz.prog B W3 "internal/strconv.uint64pow10" .u64 Lib.pow10Tab:=λw' h'=>Oz.out w' ((qx.out.TY hf3).trans h')
  have hs3:Beside mb w2.heap.size W3 nv cv rv (.cells #[.bool z.1.a.c,.int .i64 z.1.a.n,.bool z.1.b.c,.int .i64 z.1.b.n,.int .i64 z.1.home,.int .i64 z.1.gO] 154):=Beside.new qq (by rw[jd];exact aj w2 _) (Nat.le_refl _);have XO:=HTA.out W3 tF OA OB;have HCA:Hid _:=XO;have ee:Hid _:=hf3;have OC:Hid _:=OA;have Ug:Hid _:=OB;have MH:Hid _:=hs3;clear hf2 qq hW3 hf3 tF OA OB hs3 XO V3 HTA qx Oz;unfold ptr ml at HCA;unfold Og
  go_wp2_with fail
  rw[<- jd];refine Calls.mono HCA.out ?_;rintro _ w4 ⟨rfl,dE,hi4⟩;have Dv:=MH.out.keep dE;have Al:=Mt.out w4 hi4 (OC.out.on dE) (λw' h'=>Ug.out w' ((OC.out.TY dE).trans h'));have HCB:Hid _:=Al;have kA:Hid _:=ee.out.trans dE;obtain⟨e0,e1,e2,e3,e4,e5⟩:=lW Dv.b;have hl4:=af Dv.b;clear jd dE hi4 Dv Al HCA ee OC Ug MH Mt;unfold ptr ml at HCB;generalize w2.heap.size=p at *
  go_wp2_with fail
  refine Calls.mono HCB.out ?_;rintro _ w5 ⟨rfl,eY,pG⟩;have gB:Hid _:=kA.out.trans eY;have jI:Hid _:=pG;clear eY pG HCB kA e0 e1 e2 e3 e4 e5 hl4
  go_wp2
  go_ret
  exact⟨by rw[<- yG.out];rfl,gB.out,jI.out⟩
theorem uw (w:World) (nv ov:Value) (ns:List NR) (op:List Int) (h:bB w nv ov ns op) (hl:ns.length<=9000):Calls Tryz.prog 55 #[aQ nv ov] w λv w'=>v=.returned (.int .i64 ((ns.length:Int)-1))/\Below w.heap.size w w':=by
 obtain⟨a,cap,rfl⟩:=aG h.nd;obtain⟨a',cap',rfl⟩:=aG h.op;clear h;unfold aQ
 go_enter Tryz.func55,Tryz.ntmps55
 go_wp2
 go_ret
 exact⟨rfl,(Below.refl _ _).alloc (Nat.le_refl _) _⟩
end Go.Proofs.YtpicaknklgccoabGreatDoor
