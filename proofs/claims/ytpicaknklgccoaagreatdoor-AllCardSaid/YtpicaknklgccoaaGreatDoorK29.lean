import Derived.Test.YtpicaknklgccoaaGreatDoorK3
import Derived.Deep.LoopGhost
import Derived.Deep.DeepCutAuto
namespace Go.Proofs.YtpicaknklgccoaaGreatDoor
open Tryz
open Go.RowKit
variable {w b c x M Y R I X:Nat}{a z v:World}{d P k:List Tk}{y Z A C:Value}{u:Kw}{K:List Nat}{L B Q:List PT}{T N E S V H:List UInt8}{G:Tk}{O:Bool}{J U:List Wt}
def AG(d:List Tk)(l:List Tk)(e:PT)(r:List Tk):Prop:=
 e.cnt+r.length<=l.length/\e.dn+r.length+1<=l.length/\(∃t g,l=t::g/\(t.c=.num\/t.c=.wB\/t.c=.opn))/\(∃n,r=l.drop n/\n<=l.length)/\
 ∀(gt f cb p b a:Nat)(w:World),d.drop p=l->b<=p->a<=p->X0 d gt f cb p b a w->
  Calls prog 102 #[ptr cb] w (Ol d gt f cb p b a w e (l.length-r.length))
def Sb(t:List Tk)(e:Bool)(gt v cb f a d:Nat)(k:Kw)(x:Nat)(y z:List UInt8)(l:List PT)(r:List Tk)(w:World)(A B:Nat)(C:Nat)(n:Nat)(wr:World):Prop:=
 ∃(done p:List Wt)(q:Nat)(m o h j:List UInt8)(c i:List PT)(s:Value)(u:List Nat)(D E F:Value),
  n=p.length/\C<=q/\p≠[]/\fY k e=done++p/\Ed (AG t) p (t.drop q) m o c r/\y=h++m/\z=j++o/\l=i++c/\
  i.length=sU done/\(Wt.name∈done->h≠[])/\(Wt.name∉done->h=[])/\(Wt.region∉done->j=[])/\f+1+aU i<=q/\a+d+eS i<=q/\
  wr.heap[cb]?=some (.cells (fO (.slice (some ⟨gt,0,none⟩) t.length v) q (f+1+aU i) (a+d+eS i)) 181 (0,0))/\
  wr.heap[A]?=some (.cells (dJ k.bytes x h (aQ j) s f 0 a) 82 (0,0))/\
  wr.heap[B]?=some (.cells #[D,E,F] 177 (0,0))/\
  w.grownBy wr (some cb)/\wr.ownsRow 0 63 1 s i.length (u.map ptr)/\(∀g,s.ownBlock=some g->w.heap.size+2<=g)/\
  fZ wr (λb=>w.heap.size+2<=b/\b<wr.heap.size/\s.ownBlock≠some b) i (f+1) (a+d) u
theorem VT{wr}{cb:Nat}{gt:Nat}(h:a.ownsRow 0 177 3 (.slice (some ⟨gt,0,none⟩) d.length w) d.length (d.flatMap fg))(c:a.grownBy wr (some cb))(f:gt≠cb):wr.ownsRow 0 177 3 (.slice (some ⟨gt,0,none⟩) d.length w) d.length (d.flatMap fg):=by
 refine bO h (λk b=>c.block k (h.lt k b).2 ?_);simp[Value.ownBlock]at b;intro e;cases e;omega
theorem VU(w:World)(v)(e):∀(j:Nat)(u:Value),[v][j]?=some u->(w.alloc (.cells #[v] e)).cell? (Addr.add ⟨w.heap.size,0,none⟩ j)=some u:=by
 intro j u a
 match j,a with
 |0,a=>simp at a;subst a;simp[Addr.add]
 |j+1,a=>simp at a
theorem VV(b:Nat):∀(u:Value),u∈[ptr b]->u.oneCell'=true:=by
 intro u a;simp at a;subst a;rfl
theorem rM(h:d.drop w=G::P):d[w]?=some G/\w<d.length/\P=d.drop (w+1):=by
 have a:w<d.length:=by
  rcases jv w d.length with h1|h1
  ·exact h1
  ·rw[bF h1]at h;cases h
 rw[aW a]at h;simp only[dP]at h;exact⟨by rw[aa a,h.1],a,h.2.symm⟩
theorem Nf{cb:Nat}{d}(X T)(e:z.heap[cb]?=some d)(f:a.grownBy z (some cb))(c:z.heap.size=a.heap.size)(b:v.heap=((z.alloc X).alloc T).heap)(h1:v.os=z.os)(h2:v.tape=z.tape)(h3:v.output=z.output):v.heap[cb]?=some d/\v.heap[a.heap.size]?=some X/\v.heap[a.heap.size+1]?=some T/\a.grownBy v (some cb)/\v.heap.size=a.heap.size+2:=by
 refine⟨?_,?_,?_,?_,?_⟩
 ·rw[b];exact cR _ (cR _ e)
 ·rw[b,<-c];exact cR _ (bD _ _)
 ·rw[b,<-c];have:=bD (z.alloc X) T;simpa using this
 ·refine ji f ⟨h1,h2,h3,by rw[b];simp;omega,λk g _=>?_⟩;rw[b,cV _ _ _ (by simp;omega),cV _ _ _ g]
 ·rw[b];simp[c]
theorem aaH{cb:Nat}{p:Nat}(c:a.heap[cb]?=some (.cells (fO y p w b) 181 (0,0))):(((a.setCell ⟨cb,2,none⟩ (.int .i64 ((w:Int)+1))).setCell ⟨cb,1,none⟩ (.int .i64 ((p:Int)+1))).setCell ⟨cb,1,none⟩ (.int .i64 ((p:Int)+1+1))).heap[cb]?=some (.cells (fO y (p+2) (w+1) b) 181 (0,0))/\a.grownBy (((a.setCell ⟨cb,2,none⟩ (.int .i64 ((w:Int)+1))).setCell ⟨cb,1,none⟩ (.int .i64 ((p:Int)+1))).setCell ⟨cb,1,none⟩ (.int .i64 ((p:Int)+1+1))) (some cb)/\(((a.setCell ⟨cb,2,none⟩ (.int .i64 ((w:Int)+1))).setCell ⟨cb,1,none⟩ (.int .i64 ((p:Int)+1))).setCell ⟨cb,1,none⟩ (.int .i64 ((p:Int)+1+1))).heap.size=a.heap.size:=by
 refine⟨bu (bu (bu c 2 _) 1 _) 1 _,ji (ji (nR a ⟨cb,2,none⟩ _) (nR _ ⟨cb,1,none⟩ _)) (nR _ ⟨cb,1,none⟩ _),by simp[World.setCell]⟩
theorem acV{cb:Nat}{p:Nat}(c:a.heap[cb]?=some (.cells (fO y p w b) 181 (0,0))):((((a.setCell ⟨cb,2,none⟩ (.int .i64 ((w:Int)+1))).setCell ⟨cb,1,none⟩ (.int .i64 ((p:Int)+1))).setCell ⟨cb,1,none⟩ (.int .i64 ((p:Int)+1+1))).setCell ⟨cb,3,none⟩ (.int .i64 ((b:Int)+1))).heap[cb]?=some (.cells (fO y (p+2) (w+1) (b+1)) 181 (0,0))/\a.grownBy ((((a.setCell ⟨cb,2,none⟩ (.int .i64 ((w:Int)+1))).setCell ⟨cb,1,none⟩ (.int .i64 ((p:Int)+1))).setCell ⟨cb,1,none⟩ (.int .i64 ((p:Int)+1+1))).setCell ⟨cb,3,none⟩ (.int .i64 ((b:Int)+1))) (some cb)/\((((a.setCell ⟨cb,2,none⟩ (.int .i64 ((w:Int)+1))).setCell ⟨cb,1,none⟩ (.int .i64 ((p:Int)+1))).setCell ⟨cb,1,none⟩ (.int .i64 ((p:Int)+1+1))).setCell ⟨cb,3,none⟩ (.int .i64 ((b:Int)+1))).heap.size=a.heap.size:=by
 obtain⟨h1,h2,h3⟩:=aaH c;exact⟨bu h1 3 _,ji h2 (nR _ ⟨cb,3,none⟩ _),by rw[<-h3];simp[World.setCell]⟩
theorem Sd{gt cb p:Nat}{wr}{done:List Wt}(DQ:cb<a.heap.size)(v:wr.heap[cb]?=some (.cells (fO (.slice (some ⟨gt,0,none⟩) d.length w) Y (b+1+aU B) (c+x+eS B)) 181 (0,0)))(j:wr.heap[a.heap.size]?=some (.cells (dJ u.bytes M E (aQ S) y b 0 c) 82 (0,0)))(i:a.grownBy wr (some cb))(l:wr.ownsRow 0 63 1 y B.length (K.map ptr))(m:∀g,y.ownBlock=some g->a.heap.size+2<=g)(A:fZ wr (λf=>a.heap.size+2<=f/\f<wr.heap.size/\y.ownBlock≠some f) B (b+1) (c+x) K)(n:T=E++V/\N=S++H/\L=B++Q/\(Wt.name∈done->E≠[])/\(Wt.name∉done->E=[])/\(Wt.region∉done->S=[])/\B.length=sU done/\fY u O=done++J)(C:Wt.close::U=J)(hr:Ed (AG d) U k V H Q P)(D:k=d.drop (Y+1))(hd:x=if u=.pair then 1 else 0)(hpq:p<=Y)(hq:Y<d.length)(s:z.heap=((wr.setCell ⟨cb,1,none⟩ (.int .i64 ((Y:Int)+1))).setCell ⟨a.heap.size,6,none⟩ (.int .i64 (((b+1+aU B:Nat):Int)-1))).heap)(h1:z.os=wr.os)(h2:z.tape=wr.tape)(h3:z.output=wr.output):Ol d gt w cb p b c a (.node M u T N L) ((d.drop p).length-P.length) (.returned (.pointer (some ⟨a.heap.size,0,none⟩))) z:=by
 obtain⟨R,X,Z,_,_,_,_,e8⟩:=n;rw[<-C]at e8;have e9:=G9 e8;subst e9;cases hr;simp at R X Z;subst R X Z D hd;have hsz:z.heap.size=wr.heap.size:=by rw[s];simp[World.setCell]
 have hxs:=aG j;have h:∀f,f≠cb->f≠a.heap.size->z.heap[f]?=wr.heap[f]?:=by
  intro f F G;rw[s,lu G,lu F]
 refine⟨a.heap.size,rfl,?_,?_,?_⟩
 ·rw[s,cX _ _ (by simp;omega),bu v 1 _];have eu:p+((d.drop p).length-(d.drop (Y+1)).length)=Y+1:=by simp;omega
  rw[eu];simp[PT.cnt,PT.dn];rw[show b+(1+aU L)=b+1+aU L from by omega,<-aY c];rfl
 ·refine⟨h1.trans i.os,h2.trans i.tape,h3.trans i.output,by have:=i.size;omega,λf I o=>?_⟩;rw[h f (λe=>o (by rw[e])) (by omega)];exact i.block f I o
 ·refine⟨⟨bS,by omega⟩,y,K,?_,?_,?_,?_⟩
  ·rw[s,bu (by rw[cX _ _ (by simp;omega)];exact j) 6 _];have:(((b+1+aU L:Nat):Int)-1)=((b+aU L:Nat):Int):=by omega
   rw[this];rfl
  ·intro g t;have:=m g t;have:=(l.lt g t).2;exact⟨by omega,by omega⟩
  ·refine bO l (λg t=>?_);have:=m g t;exact h g (by omega) (by omega)
  ·exact fZ.keep (λf I=>⟨by omega,by omega⟩) (λf I=>h f (by omega) (by omega)) _ _ _ _ A
theorem EG{gt cb i:Nat}{wr}{done:List Wt}(DQ:cb<a.heap.size)(Xw:cb≠a.heap.size)(m:cb≠a.heap.size+1)(hcc:wr.heap[cb]?=some (.cells (fO (.slice (some ⟨gt,0,none⟩) d.length w) Y (b+1+aU B) (i+x+eS B)) 181 (0,0)))(hxx:wr.heap[a.heap.size]?=some (.cells (dJ u.bytes M E (aQ S) y b 0 i) 82 (0,0)))(htt:wr.heap[a.heap.size+1]?=some (.cells #[Z,A,C] 177 (0,0)))(l:a.grownBy wr (some cb))(GV:wr.ownsRow 0 63 1 y B.length (K.map ptr))(o:∀g,y.ownBlock=some g->a.heap.size+2<=g)(hkt:fZ wr (λf=>a.heap.size+2<=f/\f<wr.heap.size/\y.ownBlock≠some f) B (b+1) (i+x) K)(p:T=E++G.s/\N=S++H/\L=B++Q/\(Wt.name∈done->E≠[])/\(Wt.name∉done->E=[])/\(Wt.region∉done->S=[])/\B.length=sU done/\fY u O=done++J)(VD:Wt.name::U=J)(hr:Ed (AG d) U k V H Q P)(hrr:k=d.drop (Y+1))(v:G.s≠[])(D:b+1+aU B<=Y)(F:i+x+eS B<=Y)(hpq:R<=Y)(I:z.heap=(((((wr.setCell ⟨a.heap.size+1,0,none⟩ (.string (bs G.s))).setCell ⟨a.heap.size+1,1,none⟩ (.int .i64 G.at_)).setCell ⟨a.heap.size+1,2,none⟩ (.string (bs G.c.bytes))).setCell ⟨a.heap.size,2,none⟩ (.string (bs G.s))).setCell ⟨cb,1,none⟩ (.int .i64 ((Y:Int)+1))).heap)(h1:z.os=wr.os)(h2:z.tape=wr.tape)(h3:z.output=wr.output):Sb d O gt w cb b i x u M T N L P a a.heap.size (a.heap.size+1) R U.length z:=by
 have j:∀f,f≠cb->f≠a.heap.size->f≠a.heap.size+1->z.heap[f]?=wr.heap[f]?:=by
  intro f D F n;rw[I,lu D,lu F,lu n,lu n,lu n]
 have hsz:z.heap.size=wr.heap.size:=by rw[I];simp[World.setCell]
 have hc':z.heap[cb]?=some (.cells (fO (.slice (some ⟨gt,0,none⟩) d.length w) (Y+1) (b+1+aU B) (i+x+eS B)) 181 (0,0)):=by
  rw[I];refine (bu (v:=fO (.slice (some ⟨gt,0,none⟩) d.length w) Y (b+1+aU B) (i+x+eS B)) ?_ 1 _).trans rfl;rw[lu Xw,lu m,lu m,lu m];exact hcc
 have ht':z.heap[a.heap.size+1]?=some (.cells #[.string (bs G.s),.int .i64 G.at_,.string (bs G.c.bytes)] 177 (0,0)):=by
  rw[I,cX _ _ (by simp;omega),cX _ _ (by simp)];exact bu (bu (bu htt 0 _) 1 _) 2 _
 have hg':a.grownBy z (some cb):=by
  refine⟨h1.trans l.os,h2.trans l.tape,h3.trans l.output,by have:=l.size;omega,λf X hb'=>?_⟩;rw[j f (λe=>hb' (by rw[e])) (by omega) (by omega)];exact l.block f X hb'
 have Y3:=bO GV (λg hg=>by have:=o g hg;exact j g (by omega) (by omega) (by omega));have Y4:fZ z (λf=>a.heap.size+2<=f/\f<z.heap.size/\y.ownBlock≠some f) B (b+1) (i+x) K:=
  fZ.keep (λf X=>⟨X.1,by omega,X.2.2⟩) (λf X=>j f (by omega) (by omega) (by omega)) _ _ _ _ hkt
 obtain⟨e1,e2,e3,e4,e5,e6,e7,e8⟩:=p;rw[<-VD]at e8;have wn:=Bs e8;have en:=hr.wK wn.2.2;subst en;have ex:=e5 wn.2.1;subst ex;have hx':z.heap[a.heap.size]?=some (.cells (dJ u.bytes M G.s (aQ S) y b 0 i) 82 (0,0)):=by
  rw[I,cX _ _ (by simp;omega)];refine (bu (v:=dJ u.bytes M [] (aQ S) y b 0 i) ?_ 2 _).trans rfl;rw[cX _ _ (by simp),cX _ _ (by simp),cX _ _ (by simp)];exact hxx
 subst hrr;refine⟨done++[.name],U,Y+1,[],H,G.s,S,Q,B,y,K,_,_,_,rfl,by omega,wJ e8 (by decide),by rw[e8];simp,hr,by rw[e1];simp,e2,e3,by rw[e7];simp[sU],λ_=>v,λh=>absurd (by simp) h,λh=>e6 (λh'=>h (by simp[h'])),by omega,by omega,hc',hx',ht',hg',Y3,o,Y4⟩
theorem IV{gt cb i:Nat}{wr}{done:List Wt}(DQ:cb<a.heap.size)(Xw:cb≠a.heap.size)(m:cb≠a.heap.size+1)(hcc:wr.heap[cb]?=some (.cells (fO (.slice (some ⟨gt,0,none⟩) d.length w) Y (b+1+aU B) (i+x+eS B)) 181 (0,0)))(hxx:wr.heap[a.heap.size]?=some (.cells (dJ u.bytes M E (aQ S) y b 0 i) 82 (0,0)))(htt:wr.heap[a.heap.size+1]?=some (.cells #[Z,A,C] 177 (0,0)))(l:a.grownBy wr (some cb))(GV:wr.ownsRow 0 63 1 y B.length (K.map ptr))(o:∀g,y.ownBlock=some g->a.heap.size+2<=g)(hkt:fZ wr (λf=>a.heap.size+2<=f/\f<wr.heap.size/\y.ownBlock≠some f) B (b+1) (i+x) K)(p:T=E++V/\N=S++G.s/\L=B++Q/\(Wt.name∈done->E≠[])/\(Wt.name∉done->E=[])/\(Wt.region∉done->S=[])/\B.length=sU done/\fY u O=done++J)(VD:Wt.region::U=J)(hr:Ed (AG d) U k V H Q P)(hrr:k=d.drop (Y+1))(v:b+1+aU B<=Y)(D:i+x+eS B<=Y)(hpq:R<=Y)(F:z.heap=(((((wr.setCell ⟨a.heap.size+1,0,none⟩ (.string (bs G.s))).setCell ⟨a.heap.size+1,1,none⟩ (.int .i64 G.at_)).setCell ⟨a.heap.size+1,2,none⟩ (.string (bs G.c.bytes))).setCell ⟨a.heap.size,3,none⟩ (.int .i64 (aQ G.s))).setCell ⟨cb,1,none⟩ (.int .i64 ((Y:Int)+1))).heap)(h1:z.os=wr.os)(h2:z.tape=wr.tape)(h3:z.output=wr.output):Sb d O gt w cb b i x u M T N L P a a.heap.size (a.heap.size+1) R U.length z:=by
 have j:∀f,f≠cb->f≠a.heap.size->f≠a.heap.size+1->z.heap[f]?=wr.heap[f]?:=by
  intro f v D n;rw[F,lu v,lu D,lu n,lu n,lu n]
 have hsz:z.heap.size=wr.heap.size:=by rw[F];simp[World.setCell]
 have hc':z.heap[cb]?=some (.cells (fO (.slice (some ⟨gt,0,none⟩) d.length w) (Y+1) (b+1+aU B) (i+x+eS B)) 181 (0,0)):=by
  rw[F];refine (bu (v:=fO (.slice (some ⟨gt,0,none⟩) d.length w) Y (b+1+aU B) (i+x+eS B)) ?_ 1 _).trans rfl;rw[lu Xw,lu m,lu m,lu m];exact hcc
 have ht':z.heap[a.heap.size+1]?=some (.cells #[.string (bs G.s),.int .i64 G.at_,.string (bs G.c.bytes)] 177 (0,0)):=by
  rw[F,cX _ _ (by simp;omega),cX _ _ (by simp)];exact bu (bu (bu htt 0 _) 1 _) 2 _
 have hg':a.grownBy z (some cb):=by
  refine⟨h1.trans l.os,h2.trans l.tape,h3.trans l.output,by have:=l.size;omega,λf I X=>?_⟩;rw[j f (λe=>X (by rw[e])) (by omega) (by omega)];exact l.block f I X
 have Y3:=bO GV (λg hg=>by have:=o g hg;exact j g (by omega) (by omega) (by omega));have Y4:fZ z (λf=>a.heap.size+2<=f/\f<z.heap.size/\y.ownBlock≠some f) B (b+1) (i+x) K:=
  fZ.keep (λf I=>⟨I.1,by omega,I.2.2⟩) (λf I=>j f (by omega) (by omega) (by omega)) _ _ _ _ hkt
 obtain⟨e1,e2,e3,e4,e5,e6,e7,e8⟩:=p;rw[<-VD]at e8;have wn:=Fj e8;have en:=hr.r9 wn.2;subst en;have ex:=e6 wn.1;subst ex;have hx':z.heap[a.heap.size]?=some (.cells (dJ u.bytes M E (aQ G.s) y b 0 i) 82 (0,0)):=by
  rw[F,cX _ _ (by simp;omega)];refine (bu (v:=dJ u.bytes M E (aQ []) y b 0 i) ?_ 3 _).trans rfl;rw[cX _ _ (by simp),cX _ _ (by simp),cX _ _ (by simp)];exact hxx
 subst hrr;refine⟨done++[.region],U,Y+1,V,[],E,G.s,Q,B,y,K,_,_,_,rfl,by omega,wJ e8 (by decide),by rw[e8];simp,hr,e1,by rw[e2];simp,e3,by rw[e7];simp[sU],λh=>e4 (by simpa using h),λh=>e5 (λh'=>h (by simp[h'])),λh=>absurd (by simp) h,by omega,by omega,hc',hx',ht',hg',Y3,o,Y4⟩
structure aaI(ts:List Tk)(gt tc cb ids sites d:Nat)(k:Kw)(p0 q:Nat)(nmx Y5:List UInt8)(dk:List PT)(kv:Value)(bl:List Nat)(t:Tk)(w wr W1:World): Prop where
 inn:X0 ts gt tc cb q (ids+1+aU dk) (sites+d+eS dk) W1
 x:W1.heap[w.heap.size]?=some (.cells (dJ k.bytes p0 nmx (aQ Y5) kv ids 0 sites) 82 (0,0))
 tt:W1.heap[w.heap.size+1]?=some (.cells #[.string (bs t.s),.int .i64 t.at_,.string (bs t.c.bytes)] 177 (0,0))
 gr:w.grownBy W1 (some cb)
 ow:W1.ownsRow 0 63 1 kv dk.length (bl.map ptr)
 kt:fZ W1 (λb=>w.heap.size+2<=b/\b<W1.heap.size/\kv.ownBlock≠some b) dk (ids+1) (sites+d) bl
theorem acW{gt cb h:Nat}{wr}(o:cb≠a.heap.size+1)(p:wr.heap[cb]?=some (.cells (fO (.slice (some ⟨gt,0,none⟩) d.length w) Y (b+1+aU L) (h+x+eS L)) 181 (0,0)))(r:wr.heap[a.heap.size]?=some (.cells (dJ u.bytes M T (aQ N) y b 0 h) 82 (0,0)))(v:wr.heap[a.heap.size+1]?=some (.cells #[Z,A,C] 177 (0,0)))(i:a.grownBy wr (some cb))(B:wr.ownsRow 0 63 1 y L.length (K.map ptr))(D:∀g,y.ownBlock=some g->a.heap.size+2<=g)(E:fZ wr (λe=>a.heap.size+2<=e/\e<wr.heap.size/\y.ownBlock≠some e) L (b+1) (h+x) K)(F:wr.ownsRow 0 177 3 (.slice (some ⟨gt,0,none⟩) d.length w) d.length (d.flatMap fg))(H:gt≠cb)(n:gt≠a.heap.size+1)(l:z.heap=(((wr.setCell ⟨a.heap.size+1,0,none⟩ (.string (bs G.s))).setCell ⟨a.heap.size+1,1,none⟩ (.int .i64 G.at_)).setCell ⟨a.heap.size+1,2,none⟩ (.string (bs G.c.bytes))).heap)(h1:z.os=wr.os)(h2:z.tape=wr.tape)(h3:z.output=wr.output):aaI d gt w cb b h x u M Y T N L y K G a wr z:=by
 have f:∀e,e≠a.heap.size+1->z.heap[e]?=wr.heap[e]?:=by
  intro e m;rw[l,lu m,lu m,lu m]
 have J:z.heap.size=wr.heap.size:=by rw[l];simp[World.setCell]
 refine⟨⟨H,by rw[f cb o];exact p,bO F (λe j=>?_)⟩,by rw[f _ (by omega)];exact r,?_,?_,?_,?_⟩
 ·simp[Value.ownBlock]at j;subst j;exact f _ n
 ·rw[l];exact bu (bu (bu v 0 _) 1 _) 2 _
 ·refine⟨h1.trans i.os,h2.trans i.tape,h3.trans i.output,by have:=i.size;omega,λe j I=>?_⟩;rw[f e (by omega)];exact i.block e j I
 ·exact bO B (λg O=>by have:=D g O;exact f g (by omega))
 ·exact fZ.keep (λe j=>⟨j.1,by omega,j.2.2⟩) (λe j=>f e (by omega)) _ _ _ _ E
theorem aaJ{gt cb l f:Nat}{wr w3 W}{done:List Wt}{A}{C n:Nat}(DQ:cb<a.heap.size)(D:aaI d gt w cb b l f u M Y E S B y K G a wr z)(hkb:∀X,y.ownBlock=some X->a.heap.size+2<=X)(hall:T=E++V/\N=S++H/\L=B++(A::Q)/\(Wt.name∈done->E≠[])/\(Wt.name∉done->E=[])/\(Wt.region∉done->S=[])/\B.length=sU done/\fY u O=done++J)(VD:Wt.e::U=J)(hr:Ed (AG d) U k V H Q P)(hrr:k=d.drop (Y+n))(hb1:b+1+aU B+A.cnt<=Y+n)(hb2:l+f+eS B+A.dn<=Y+n)(hpq:R<=Y)(hc2:v.heap[cb]?=some (.cells (fO (.slice (some ⟨gt,0,none⟩) d.length w) (Y+n) (b+1+aU B+A.cnt) (l+f+eS B+A.dn)) 181 (0,0)))(o:z.grownBy v (some cb))(s6:gS v (λu=>z.heap.size<=u/\u<v.heap.size) A (b+1+aU B) (l+f+eS B) I)(p:(v.alloc (.cells #[Z] 63)).grownBy w3 y.ownBlock)(zk:w3.ownsRow 0 63 1 (.slice (some ⟨X,0,none⟩) (B.length+1) C) (B.length+1) (K.map ptr++[ptr I]))(hgg:y.ownBlock=some X\/(v.alloc (.cells #[Z] 63)).heap.size<=X)(hW:W.heap=(w3.setCell ⟨a.heap.size,4,none⟩ (.slice (some ⟨X,0,none⟩) (B.length+1) C)).heap)(h1:W.os=w3.os)(h2:W.tape=w3.tape)(h3:W.output=w3.output):Sb d O gt w cb b l f u M T N L P a a.heap.size (a.heap.size+1) R U.length W:=by
 obtain⟨e1,e2,e3,e4,e5,e6,e7,e8⟩:=hall;rw[<-VD]at e8;have hts:=aG D.tt;have s12:=o.size;have s23:=p.size;have ea:(v.alloc (.cells #[Z] 63)).heap.size=v.heap.size+1:=by simp
 have hsW:W.heap.size=w3.heap.size:=by rw[hW];simp[World.setCell]
 have F:=λX hg=>(D.ow.lt X hg).2
 have o2:∀j,j<v.heap.size->j≠a.heap.size->y.ownBlock≠some j->W.heap[j]?=v.heap[j]?:=by
  intro j m hbx hbk;rw[hW,lu hbx,p.block j (by rw[ea];omega) (λe=>hbk e.symm),cV _ _ _ m]
 have o1:∀j,j<z.heap.size->j≠cb->j≠a.heap.size->y.ownBlock≠some j->W.heap[j]?=z.heap[j]?:=by
  intro j m hbc hbx hbk;rw[o2 j (by omega) hbx hbk,o.block j m (by intro e;cases e;exact hbc rfl)]
 have nk:∀j,j<a.heap.size+2->y.ownBlock≠some j:=λj m e=>by have:=hkb j e;omega
 have hcW:W.heap[cb]?=some (.cells (fO (.slice (some ⟨gt,0,none⟩) d.length w) (Y+n) (b+1+aU (B++[A])) (l+f+eS (B++[A]))) 181 (0,0)):=by
  rw[o2 cb (aG hc2) (by omega) (nk cb (by omega)),hc2,lU,zh,aY (b+1),aY (l+f)]
 have hxW:W.heap[a.heap.size]?=some (.cells (dJ u.bytes M E (aQ S) (.slice (some ⟨X,0,none⟩) (B.length+1) C) b 0 l) 82 (0,0)):=by
  rw[hW];refine (bu (v:=dJ u.bytes M E (aQ S) y b 0 l) ?_ 4 _).trans rfl;rw[p.block _ (by rw[ea];omega) (λe=>nk _ (by omega) e.symm),cV _ _ _ (by omega),o.block _ (aG D.x) (by intro e;cases e;omega)];exact D.x
 have htW:W.heap[a.heap.size+1]?=some (.cells #[.string (bs G.s),.int .i64 G.at_,.string (bs G.c.bytes)] 177 (0,0)):=by
  rw[o1 _ hts (by omega) (by omega) (nk _ (by omega))];exact D.tt
 have hgW:a.grownBy W (some cb):=by
  refine⟨h1.trans (p.os.trans (o.os.trans D.gr.os)),h2.trans (p.tape.trans (o.tape.trans D.gr.tape)),h3.trans (p.output.trans (o.output.trans D.gr.output)),by have:=D.gr.size;omega,λj m hb'=>?_⟩;rw[o1 j (by omega) (λe=>hb' (by rw[e])) (by omega) (nk j (by omega))];exact D.gr.block j m hb'
 have hge:∀g',(Value.slice (some ⟨X,0,none⟩) (B.length+1) C).ownBlock=some g'->g'=X:=by
  intro g' h;simp[Value.ownBlock]at h;exact h.symm
 have hgx:a.heap.size+2<=X:=by
  rcases hgg with h|h
  ·exact hkb X h
  ·omega
 have hoW:W.ownsRow 0 63 1 (.slice (some ⟨X,0,none⟩) (B.length+1) C) (B++[A]).length ((K++[I]).map ptr):=by
  have e1':(B++[A]).length=B.length+1:=by simp
  have e2':(K++[I]).map ptr=K.map ptr++[ptr I]:=by simp
  rw[e1',e2'];refine bO zk (λg' hg'=>?_);rw[hge g' hg',hW,cX _ _ (by simp;omega)]
 have aaK:∀j,(j<z.heap.size/\y.ownBlock≠some j)\/(z.heap.size<=j/\j<v.heap.size)->j≠X:=by
  intro j m e;subst e;rcases hgg with h|h
  ·rcases m with⟨_,m⟩|⟨m,_⟩
   ·exact m h
   ·have:=F _ h;omega
  ·omega
 refine⟨done++[.e],U,Y+n,V,H,E,S,Q,B++[A],_,K++[I],_,_,_,rfl,by omega,wJ e8 (by decide),by rw[e8];simp,by rw[<-hrr];exact hr,e1,e2,by rw[e3];simp,by simp[e7,sU],
  λh=>e4 (by simpa using h),λh=>e5 (λh'=>h (by simp[h'])),λh=>e6 (λh'=>h (by simp[h'])),by rw[lU];omega,by rw[zh];omega,hcW,hxW,htW,hgW,hoW,λg' hg'=>by rw[hge g' hg'];exact hgx,?_⟩
 refine fZ.snoc _ _ _ _ _ _ ?_ ?_
 ·refine fZ.keep (λj m=>⟨m.1,by omega,?_⟩) (λj m=>o1 j m.2.1 (by omega) (by omega) m.2.2) _ _ _ _ D.kt;intro e;exact aaK j (aD ⟨m.2.1,m.2.2⟩) (hge j e)
 ·have:∀j,z.heap.size<=j/\j<v.heap.size->y.ownBlock≠some j:=λj m e=>by have:=F j e;omega
  refine gS.keep (λj m=>⟨by omega,by omega,?_⟩) (λj m=>o2 j m.2 (by omega) (this j m)) _ _ _ _ s6;intro e;exact aaK j (aE m) (hge j e)
