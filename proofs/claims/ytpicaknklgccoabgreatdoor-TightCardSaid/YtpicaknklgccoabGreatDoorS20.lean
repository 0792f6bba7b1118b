import Derived.Test.YtpicaknklgccoabGreatDoorS19
import Derived.Lib.SlBytesRow
import Derived.Lib.BufferRead
set_option maxHeartbeats 4000000
set_option maxRecDepth 100000
namespace Go.Proofs.YtpicaknklgccoabGreatDoor
open Go.RowKit
theorem Ql (L:Ly) (hlo:∀ i,-1<=jJ L.regs i) (wb:Nat) (x1:Option Addr) (n1 c1:Nat) (x2:Option Addr) (n2 c2:Nat) (ns:List NR) (op:List Int) (p:Nat) (k:Kw) (nm rg:List UInt8) (kids:List PT) (hkn:k≠.new) (ih:∀ x∈kids,Aa L wb (.slice x1 n1 c1) (.slice x2 n2 c2) ns op x):L5 L wb (.slice x1 n1 c1) (.slice x2 n2 c2) ns op (.node p k nm rg kids):=by
 intro base w v tx hsh iG hwf hle nK hin aZ
 simp only [fG] at hsh
 obtain ⟨⟨n,hn,hf,hwd,oU,gI,vA⟩,hks⟩:=hsh
 simp only [PT.bL] at iG
 simp only [PT.wf] at hwf
 simp only [PT.cnt] at hle nK
 have har:kids.length<=3:=by rw [hwf.1];cases k <;> decide
 have hno:=ew w (.slice x1 n1 c1) (.slice x2 n2 c2) ns op (aZ.tree w (Below.refl _ _)) (base+az kids) n hn aZ.len
 have hb:=hin.blk
 have hbl:=aZ.len
 have y0:w.cell? ⟨wb,0,none⟩=some (.slice x1 n1 c1):=by rw [aa hb];rfl
 have y1:w.cell? ⟨wb,1,none⟩=some (.slice x2 n2 c2):=by rw [aa hb];rfl
 have zo:=fun (w':World) (hb:Below w.heap.size w w')=>aZ.lay w' (hb.mono (Nat.le_of_lt (af hin.blk)))
 have hrg:=fun (w':World) (hb:Below w.heap.size w w')=>Ft w' L (zo w' hb) aZ.rl (base+az kids) (by have:=aZ.len;omega)
 obtain ⟨a0,e0,hlr⟩:=aF (zo w (Below.refl _ _)).r
 obtain ⟨a1,e1,hla⟩:=aF (zo w (Below.refl _ _)).a
 rw [hlr,hla] at hrg
 have hcall:=fun w' (h1:kz L wb w' (.slice x1 n1 c1) (.slice x2 n2 c2) v tx) (h2:pS L wb w' (.slice x1 n1 c1) (.slice x2 n2 c2) ns op) =>
  Bh L wb x1 n1 c1 x2 n2 c2 ns op k nm kids hkn har ih base w' v tx n hf hwd oU gI vA hks iG.1 iG.2 hwf.2 (by omega) nK (base+az kids) (hlo _) h1 h2
 rw [LZ L.regs L.news p k nm rg kids base hkn] at hcall
 have q1:((n.form:Int) == 1)=false:=ah (b:=1) (by rw [hf];cases k <;> decide)
 have q2:((n.form:Int) == 2)=false:=ah (b:=2) (by rw [hf];cases k <;> decide)
 have zQ:((n.form:Int) == 12)=false:=ah (b:=12) (by rw [hf];cases k <;> first | decide | exact absurd rfl hkn)
 unfold aI at hcall
 have HC:Hid _:=hcall
 have mq:Hid _:=hin
 have ow:Hid _:=aZ
 have hlt:=af hb
 unfold aJ aI at hno
 simp only [PT.cnt]
 rw [show (((base+(1+az kids):Nat):Int) - 1)=((base+az kids:Nat):Int) from by omega]
 generalize (PT.node p k nm rg kids).vF L.regs L.news base=px at *
 generalize jJ L.regs (base+az kids)=R at *
 generalize base+az kids=K at *
 clear zo hb hin aZ hcall hn hf hwd oU gI vA hks ih iG hwf nK hle
 go_enter Tryz.func77,Tryz.ntmps77
 go_wp2_with fail
 refine Calls.mono hno ?_
 rintro _ w1 ⟨rfl,hb1⟩
 have hs1:=hb1.size
 have Wf:=hb1.alloc hb1.size (bU n)
 have hwl:wb < w1.heap.size:=by omega
 have hwn:wb≠w1.heap.size:=by omega
 have y2:w1.cell? ⟨wb,2,none⟩=some (.slice a0 L.regs.length e0):=by rw [aa (mq.out.below hb1).blk,<- hlr];rfl
 have y3:w1.cell? ⟨wb,3,none⟩=some (.slice a1 L.news.length e1):=by rw [aa (mq.out.below hb1).blk,<- hla];rfl
 go_wp2_with fail
 refine (hrg _ Wf).mono ?_
 rintro _ w2 ⟨rfl,hb2⟩
 have hB:Below w.heap.size w w2:=Wf.trans (hb2.mono Wf.size)
 have hnb:w2.heap[w1.heap.size]?=some (bU n):=by rw [hb2.block _ (by simp)];exact aj _ _
 obtain ⟨d0,d1,d2,d3,d4,d5,d6,d7,d8,d9⟩:=aC hnb
 have kN:=af hnb
 clear hb2 hnb
 go_wp2_with fail
 refine (HC.out _ (mq.out.below hB) (ow.out.on (hB.mono (Nat.le_of_lt hlt)))).mono ?_
 rintro _ w3 ⟨v',rfl,hfr,pT⟩
 go_wp2_with fail
 refine bodyPost_end (v:=.tuple #[]) (by simp [results,Tryz.results77,go_sem]) rfl ⟨v',rfl,(jU.jI v hB).trans hfr,pT⟩
theorem Qm (L:Ly) (hlo:∀ i,-1<=jJ L.regs i) (wb:Nat) (x1:Option Addr) (n1 c1:Nat) (x2:Option Addr) (n2 c2:Nat) (ns:List NR) (op:List Int) (t:PT):t.wf->Aa L wb (.slice x1 n1 c1) (.slice x2 n2 c2) ns op t:=by
 induction t using PT.ind with
 | h1 p s=>exact fun _=>Bg L _ _ _ _ _ _ (TT L wb x1 n1 c1 x2 n2 c2 ns op p s)
 | h2 p s=>exact fun _=>Bg L _ _ _ _ _ _ (P6 L wb x1 n1 c1 x2 n2 c2 ns op p s)
 | h3 p k nm rg kids ih =>
  intro hwf
  simp only [PT.wf] at hwf
  have ih':∀ x∈kids,Aa L wb (.slice x1 n1 c1) (.slice x2 n2 c2) ns op x:=fun x hx=>ih x hx (A3 hwf.2 x hx)
  by_cases hk:k=.new
  ·subst hk
   match kids,hwf.1,ih' with
   | [x],_,ih'=>exact Bg L _ _ _ _ _ _ (Ue L wb x1 n1 c1 x2 n2 c2 ns op p nm rg x (ih' x (by simp)))
  ·exact Bg L _ _ _ _ _ _ (Ql L hlo wb x1 n1 c1 x2 n2 c2 ns op p k nm rg kids hk ih')
open Go.Lib (strCells)
theorem Tryz.Sn:Tryz.prog.underlying 5=some (.int .u8):=by kernel_rfl
theorem Mp (w:World) (base:Nat) (v:Value) (tx:List UInt8) (h:w.ownsRow base 5 1 v tx.length (strCells (bs tx))):(convert 82 9 v).run Tryz.prog w=.ok (.string (bs tx)) w:=by
 rcases h.2 with ⟨h1,h2⟩ | ⟨g,cap,cur,h1,_⟩
 ·obtain rfl:tx=[]:=List.eq_nil_of_length_eq_zero h2
  subst h1
  exact Lib.run_convert_nil_bytes w _ _ _ 0 Tryz.wM Tryz.Sn Tryz.Fp
 ·subst h1
  have hc:Lib.Bytes w g 0 (bs tx):=by
   intro i hi
   rw [Nat.zero_add,h.cellAt i (by rw [cN] at hi;omega)]
   have hi':i < tx.length:=by rw [cN] at hi;exact hi
   simp [strCells,bs,hi']
   rfl
  have:=Lib.run_convert_whole (P:=Tryz.prog) w _ _ _ Tryz.wM Tryz.Sn Tryz.Fp g 0 (bs tx) hc cap
  rw [cN] at this
  exact this
abbrev Uo (x1:Option Addr) (n1 c1:Nat) (x2:Option Addr) (n2 c2:Nat):Obj:=.cells #[.slice x1 n1 c1,.slice x2 n2 c2] 62
abbrev XN (y1:Option Addr) (m1 d1:Nat) (y2:Option Addr) (m2 d2:Nat):Obj:=.cells #[.slice y1 m1 d1,.slice y2 m2 d2] 73
abbrev ZY (x1:Option Addr) (n1 c1:Nat) (x2:Option Addr) (n2 c2:Nat) (y1:Option Addr) (m1 d1:Nat) (y2:Option Addr) (m2 d2:Nat):Obj:=.cells #[.slice x1 n1 c1,.slice x2 n2 c2,.slice y1 m1 d1,.slice y2 m2 d2,.slice none 0 0] 95
theorem wW (w:World) (y1:Option Addr) (m1 d1:Nat) (y2:Option Addr) (m2 d2:Nat) (regs news:List Int) (hL:wP w ⟨.slice y1 m1 d1,.slice y2 m2 d2,regs,news⟩) (gZ:Xp regs news) (hlo:∀ i,-1<=jJ regs i) (hrl:regs.length<=9000) (x1:Option Addr) (n1 c1:Nat) (x2:Option Addr) (n2 c2:Nat) (ns:List NR) (op:List Int) (t:PT) (hT:bg w (.slice x1 n1 c1) (.slice x2 n2 c2) ns op) (htab:Lib.TabIs Tryz.prog w "internal/strconv.uint64pow10" .u64 Lib.pow10Tab)
  (hsh:fG ns t 0) (iG:t.bL) (hwf:t.wf) (jL:t.cnt=ns.length) (hl:ns.length<=9000) :
  Calls Tryz.prog 32 #[aJ (.slice x1 n1 c1) (.slice x2 n2 c2),.agg #[.slice y1 m1 d1,.slice y2 m2 d2]] w fun v w'=>v=.returned (.string (bs (t.u7 regs news 0)))/\Below w.heap.size w w':=by
 have hA:Below w.heap.size w ((w.alloc (Uo x1 n1 c1 x2 n2 c2)).alloc (XN y1 m1 d1 y2 m2 d2)):=((Below.refl _ _).alloc (Nat.le_refl _) _).alloc (by simp) _
 have hB:Below w.heap.size w (((w.alloc (Uo x1 n1 c1 x2 n2 c2)).alloc (XN y1 m1 d1 y2 m2 d2)).alloc (ZY x1 n1 c1 x2 n2 c2 y1 m1 d1 y2 m2 d2)):=hA.alloc (by simp;omega) _
 have hin:kz ⟨.slice y1 m1 d1,.slice y2 m2 d2,regs,news⟩ (w.heap.size+2) (((w.alloc (Uo x1 n1 c1 x2 n2 c2)).alloc (XN y1 m1 d1 y2 m2 d2)).alloc (ZY x1 n1 c1 x2 n2 c2 y1 m1 d1 y2 m2 d2)) (.slice x1 n1 c1) (.slice x2 n2 c2) (.slice none 0 0) [] :=
  ⟨by have:=aj ((w.alloc (Uo x1 n1 c1 x2 n2 c2)).alloc (XN y1 m1 d1 y2 m2 d2)) (ZY x1 n1 c1 x2 n2 c2 y1 m1 d1 y2 m2 d2);simpa using this,World.ownsRow_nil _ _ _ _⟩
 have aZ:pS ⟨.slice y1 m1 d1,.slice y2 m2 d2,regs,news⟩ (w.heap.size+2) (((w.alloc (Uo x1 n1 c1 x2 n2 c2)).alloc (XN y1 m1 d1 y2 m2 d2)).alloc (ZY x1 n1 c1 x2 n2 c2 y1 m1 d1 y2 m2 d2)) (.slice x1 n1 c1) (.slice x2 n2 c2) ns op :=
  ⟨fun w' h'=>hT.below (hB.trans (h'.mono (by omega))),fun w' h'=>Lib.tabBelow_of_tabIs htab w' (hB.trans (h'.mono (by omega))),hl,fun w' h'=>hL.below (hB.trans (h'.mono (by omega))),gZ,hrl⟩
 have hro:=fun w' (h:Below w.heap.size w w')=>sr w' _ _ ns op (hT.below h) hl
 have hex:=fun w' h1 h2=>Qm ⟨.slice y1 m1 d1,.slice y2 m2 d2,regs,news⟩ hlo (w.heap.size+2) x1 n1 c1 x2 n2 c2 ns op t hwf 0 w' (.slice none 0 0) [] hsh iG hwf (by omega) (by simp;omega) h1 h2
 rw [Nat.zero_add,jL] at hex
 simp only [List.nil_append] at hex
 unfold aJ at hro
 have K3:Hid _:=hro
 have Cw:Hid _:=hex
 have mq:Hid _:=hin
 have ow:Hid _:=aZ
 have HB:Hid _:=hB
 clear hro hex hin aZ hA hL gZ hlo hT htab hsh iG hwf jL hB
 unfold aJ
 go_enter Tryz.func32,Tryz.ntmps32
 go_wp2_with fail
 refine (K3.out _ HB.out).mono ?_
 rintro _ w1 ⟨rfl,hb1⟩
 have dG:Hid _:=hb1
 clear hb1
 go_wp2_with fail
 refine (Cw.out _ (mq.out.below dG.out) (ow.out.on (dG.out.mono (by simp)))).mono ?_
 rintro _ w2 ⟨v',rfl,hfr,pT⟩
 have hb2:Below w.heap.size w w2:=HB.out.trans (((dG.out.mono (by simp)).trans ((mq.out.below dG.out).fr hfr)).mono (by omega))
 obtain ⟨xa,xc,hv⟩:=aF pT.row
 subst hv
 have y2:w2.cell? ⟨w.heap.size+2,4,none⟩=some (.slice xa (t.u7 regs news 0).length xc):=by rw [aa pT.blk];rfl
 have hcv:=Mp w2 _ _ _ pT.row
 have dU:Hid _:=hb2
 clear hfr pT hb2 Cw mq ow K3 dG HB
 go_wp2
 go_ret
 exact ⟨rfl,dU.out⟩
theorem Fy (w:World) (x1:Option Addr) (n1 c1:Nat) (x2:Option Addr) (n2 c2:Nat) (ns:List NR) (op:List Int) (t:PT) (hT:bg w (.slice x1 n1 c1) (.slice x2 n2 c2) ns op) (htab:Lib.TabIs Tryz.prog w "internal/strconv.uint64pow10" .u64 Lib.pow10Tab)
  (hsh:fG ns t 0) (iG:t.bL) (hwf:t.wf) (jL:t.cnt=ns.length) (hl:ns.length<=9000) :
  Calls Tryz.prog 32 #[aJ (.slice x1 n1 c1) (.slice x2 n2 c2),.agg #[.slice none 0 0,.slice none 0 0]] w fun v w'=>v=.returned (.string (bs t.lO))/\Below w.heap.size w w':=by
 have:=wW w none 0 0 none 0 0 [] [] ⟨World.ownsRow_nil _ _ _ _,World.ownsRow_nil _ _ _ _⟩ ⟨by simp,fun i=>by simp [jJ]⟩ (fun i=>by simp [jJ]) (by simp) x1 n1 c1 x2 n2 c2 ns op t hT htab hsh iG hwf jL hl
 rw [P4] at this
 exact this
theorem JH (w:World) (x1:Option Addr) (n1 c1:Nat) (x2:Option Addr) (n2 c2:Nat) (ns:List NR) (op:List Int) (t:PT) (hT:bg w (.slice x1 n1 c1) (.slice x2 n2 c2) ns op) (htab:Lib.TabIs Tryz.prog w "internal/strconv.uint64pow10" .u64 Lib.pow10Tab)
  (hsh:fG ns t 0) (iG:t.bL) (hwf:t.wf) (jL:t.cnt=ns.length) (hl:ns.length<=9000) :
  Calls Tryz.prog 37 #[aJ (.slice x1 n1 c1) (.slice x2 n2 c2)] w fun v w'=>v=.returned (.string (bs t.lO))/\Below w.heap.size w w':=by
 have hpl:=fun w' (hb:Below w.heap.size w w')=>Fy w' x1 n1 c1 x2 n2 c2 ns op t (hT.below hb) (Lib.tabBelow_of_tabIs htab w' hb) hsh iG hwf jL hl
 unfold aJ at hpl
 unfold aJ
 have HP:Hid _:=hpl
 clear hpl hT htab hsh iG hwf jL
 go_enter Tryz.func37,Tryz.ntmps37
 go_wp2_with fail
 refine (HP.out _ ((Below.refl _ w).alloc (Nat.le_refl _) (Uo x1 n1 c1 x2 n2 c2))).mono ?_
 rintro _ w1 ⟨rfl,hb1⟩
 have dG:Hid _:=((Below.refl _ w).alloc (Nat.le_refl _) (Uo x1 n1 c1 x2 n2 c2)).trans (hb1.mono (by simp))
 clear hb1
 go_wp2
 go_ret
 exact ⟨rfl,dG.out⟩
theorem zy (s:ByteArray) (w:World) (hs:s.size<=9000) (htab:Lib.TabIs Tryz.prog w "internal/strconv.uint64pow10" .u64 Lib.pow10Tab) (e:PT) (hp:PE true (tokens s.data.toList) e []) :
  Calls Tryz.prog 18 #[.string s] w fun v w'=>v=.returned (.tuple #[.string (bs e.lO),.int .i64 0])/\Below w.heap.size w w':=by
 have vH:=tL s w hs e hp
 have jL:=jn hp
 have iG:=(hp.bL (eJ _)).1
 have hwf:=hp.wf
 have hpl:∀ (w1:World) (x1:Option Addr) (n1 c1:Nat) (x2:Option Addr) (n2 c2:Nat) (ns:List NR),Below w.heap.size w w1->bg w1 (.slice x1 n1 c1) (.slice x2 n2 c2) ns (opn e 0)->NA [] e 0 ns->Calls Tryz.prog 37 #[aJ (.slice x1 n1 c1) (.slice x2 n2 c2)] w1 fun v w'=>v=.returned (.string (bs e.lO))/\Below w1.heap.size w1 w' :=
  fun w1 x1 n1 c1 x2 n2 c2 ns hb hT bt=>JH w1 x1 n1 c1 x2 n2 c2 ns (opn e 0) e hT (Lib.tabBelow_of_tabIs htab w1 hb) bt.wN iG hwf bt.len.symm (by rw [bt.len];omega)
 unfold aJ at hpl vH
 have Tu:Hid _:=hpl
 clear hpl iG hwf hp htab jL
 go_enter Tryz.func18,Tryz.ntmps18
 go_wp2_with fail
 refine vH.mono ?_
 rintro _ w1 ⟨x1,n1,c1,x2,n2,c2,ns,rfl,hb,hT,bt⟩
 have HB:Hid _:=hb.alloc hb.size (.cells #[.slice x1 n1 c1,.slice x2 n2 c2] 62)
 have HT:Hid _:=hT.below ((Below.refl _ w1).alloc (Nat.le_refl _) (.cells #[.slice x1 n1 c1,.slice x2 n2 c2] 62))
 have yT:Hid _:=bt
 clear hb hT bt vH
 go_wp2_with fail
 refine (Tu.out _ x1 n1 c1 x2 n2 c2 ns HB.out HT.out yT.out).mono ?_
 rintro _ w2 ⟨rfl,hb2⟩
 have dU:Hid _:=HB.out.trans (hb2.mono HB.out.size)
 clear hb2 Tu HB HT yT
 go_wp2
 refine bodyPost_ret (v:=.tuple #[.string (bs e.lO),.int .i64 0]) (by simp [results,Tryz.results18,go_sem]) rfl ⟨rfl,dU.out⟩
structure MV where
 c:Bool
 n:Int
structure MC where
 a:MV
 b:MV
 home:Nat
 gA:Nat
structure MR where
 num:Int
 gA:Nat
 cells:Nat
structure MM where
 steps:Nat
 fault:Nat
 named:List MV
 cells:List MC
 regs:List MR
 opened:Nat
 live:Int
 most:Int
def v0:MV:=⟨false,0⟩
def c0:MC:=⟨v0,v0,0,0⟩
def MM.stop (m:MM) (f:Nat):MM:=if m.fault=0 then { m with fault:=f } else m
def MM.opn (m:MM) (k:Int):MM:={ m with regs:=m.regs++[⟨k,m.opened,0⟩],opened:=m.opened+1 }
def MM.fin (m:MM):MM:=match m.regs.getLast? with
 | none=>m
 | some r=>{ m with live:=m.live - r.cells,regs:=m.regs.dropLast }
def iI (l:List MR) (k:Int):Nat->Nat
 | 0=>0
 | i+1=>if (l[i+1]?).map (·.num)=some k then i+1 else iI l k i
def MM.home (m:MM) (k:Int):Nat:=iI m.regs k (m.regs.length - 1)
def MM.aX (m:MM) (k:Int) (a b:MV):MV × MM:=match m.regs[m.home k]? with
 | none=>(v0,m)
 | some r=>(⟨true,m.cells.length⟩,{ m with regs:=m.regs.set (m.home k) { r with cells:=r.cells+1 },cells:=m.cells++[⟨a,b,m.home k,r.gA⟩],live:=m.live+1,most:=if m.most < m.live+1 then m.live+1 else m.most })
def MM.isLive (m:MM) (c:MC):Bool:=match m.regs[c.home]? with
 | some r=>r.gA == c.gA
 | none=>false
def MM.use (m:MM) (v:MV):MC × MM :=
 if v.c=false\/v.n < 0\/(m.cells.length:Int)<=v.n then (c0,m)
 else (m.cells.getD v.n.toNat c0,if m.isLive (m.cells.getD v.n.toNat c0)=true then m else m.stop 13)
def MM.name (m:MM) (i:Int) (v:MV):MM:=if 0<=i/\i < m.named.length then { m with named:=m.named.set i.toNat v } else m
def MM.look (m:MM) (i:Int):MV:=if i < 0\/(m.named.length:Int)<=i then v0 else m.named.getD i.toNat v0
def ba (fuel:Nat) (m:MM) (f:MM->MV × MM):MV × MM :=
 let m1:=if fuel<=m.steps then m.stop 12 else m
 if m1.fault≠0 then (v0,m1) else f { m1 with steps:=m1.steps+1 }
def cD (i:Int) (f:MM->MV × MM):Nat->MV->MM->MV × MM
 | 0,x,m=>(x,m)
 | k+1,x,m=>if m.fault≠0 then (x,m) else cD i f k (f (m.name i x)).1 (f (m.name i x)).2
def gQ (k:Kw) (a b:Int):Int :=
 if k=.add then Int.tmod (a+b) 10000 else if k=.sub then Int.tmod (a+10000 - b) 10000 else if a < b then 1 else 0
mutual
def mW (fuel:Nat):PT->Sc->Nat->MM->MV × MM
 | .num _ s,_,_,m=>ba fuel m (fun m=>(⟨false,aq s⟩,m))
 | .name _ s,sc,_,m=>ba fuel m (fun m=>(m.look (bN sc s),m))
 | .node _ k nm rg kids,sc,base,m =>
  if k=.new then pV fuel (aq rg) kids sc base m
  else ba fuel m (fun m =>
   if k=.aT then sD fuel nm kids sc base m
   else if k=.dQ then Fz fuel kids sc base m
   else if k=.loop then kU fuel nm kids sc base m
   else fN fuel k (aq rg) kids sc base m)
def pV (fuel:Nat) (rg:Int):List PT->Sc->Nat->MM->MV × MM
 | [a],sc,base,m =>
  let x:=mW fuel a sc base (m.opn rg)
  (x.1,x.2.fin)
 | _,_,_,m=>(v0,m)
def sD (fuel:Nat) (nm:List UInt8):List PT->Sc->Nat->MM->MV × MM
 | [a,b],sc,base,m =>
  let x:=mW fuel a sc base m
  mW fuel b (sc++[(nm,((base+a.cnt:Nat):Int) - 1)]) (base+a.cnt) (x.2.name (((base+a.cnt:Nat):Int) - 1) x.1)
 | _,_,_,m=>(v0,m)
def Fz (fuel:Nat):List PT->Sc->Nat->MM->MV × MM
 | [a,b,c],sc,base,m =>
  let x:=mW fuel a sc base m
  if x.1.n≠0 then mW fuel b sc (base+a.cnt) x.2 else mW fuel c sc (base+a.cnt+b.cnt) x.2
 | _,_,_,m=>(v0,m)
def kU (fuel:Nat) (nm:List UInt8):List PT->Sc->Nat->MM->MV × MM
 | [a,b,c],sc,base,m =>
  let x:=mW fuel a sc base m
  let y:=mW fuel b sc (base+a.cnt) x.2
  cD (((base+a.cnt+b.cnt:Nat):Int) - 1) (fun m=>mW fuel c (sc++[(nm,((base+a.cnt+b.cnt:Nat):Int) - 1)]) (base+a.cnt+b.cnt) m) x.1.n.toNat y.1 y.2
 | _,_,_,m=>(v0,m)
def fN (fuel:Nat) (k:Kw) (rg:Int):List PT->Sc->Nat->MM->MV × MM
 | [a],sc,base,m =>
  let x:=mW fuel a sc base m
  let c:=x.2.use x.1
  (if k=.fst then c.1.a else c.1.b,c.2)
 | [a,b],sc,base,m =>
  let x:=mW fuel a sc base m
  let y:=mW fuel b sc (base+a.cnt) x.2
  if k=.pair then y.2.aX rg x.1 y.1 else (⟨false,gQ k x.1.n y.1.n⟩,y.2)
 | _,_,_,m=>(v0,m)
end
def MV.bd (v:MV):Prop:=-30000<=v.n/\v.n<=30000
def j9:List MR->Nat
 | []=>0
 | r::l=>r.cells+j9 l
structure nG (fuel:Nat) (m:MM):Prop where
 steps:m.steps<=fuel
 cells:m.cells.length<=m.steps
 live:m.live=j9 m.regs
 sum:j9 m.regs<=m.cells.length
 most:0<=m.most/\m.most<=m.cells.length
 named:∀ v∈m.named,v.bd
 cell:∀ c∈m.cells,c.a.bd/\c.b.bd/\c.home<=20000/\c.gA<=m.opened
 regs:m.regs.length<=20000
 gA:∀ r∈m.regs,r.gA<=m.opened/\-1<=r.num/\r.num<=9999
theorem sE:v0.bd:=by simp [v0,MV.bd]
theorem MM.Hs {fuel:Nat} {m:MM} (h:nG fuel m) (f:Nat):nG fuel (m.stop f):=by
 unfold MM.stop;split
 ·exact ⟨h.steps,h.cells,h.live,h.sum,h.most,h.named,h.cell,h.regs,h.gA⟩
 ·exact h
theorem oB (a b:List MR):j9 (a++b)=j9 a+j9 b:=by induction a <;> simp [j9, *];omega
theorem sF:∀ (l:List MR) (i:Nat) (r r':MR),l[i]?=some r->j9 (l.set i r')+r.cells=j9 l+r'.cells
 | [],i,r,r',h=>by simp at h
 | a::l,0,r,r',h=>by simp at h;subst h;simp [j9];omega
 | a::l,i+1,r,r',h=>by
  have:=sF l i r r' (by simpa using h)
  simp [j9];omega
theorem MM.FA {fuel:Nat} {m:MM} (h:nG fuel m) (k:Int) (hk:-1<=k/\k<=9999) (hr:m.regs.length+1<=20000):nG fuel (m.opn k):=by
 refine ⟨h.steps,h.cells,?_,?_,h.most,h.named,?_,?_,?_⟩
 ·simp [MM.opn,oB,j9,h.live]
 ·simp [MM.opn,oB,j9];exact h.sum
 ·intro c hc
  have:=h.cell c hc
  exact ⟨this.1,this.2.1,this.2.2.1,Nat.le_succ_of_le this.2.2.2⟩
 ·simp [MM.opn];omega
 ·intro r hr
  simp only [MM.opn,List.mem_append,List.mem_singleton] at hr
  rcases hr with hr | rfl
  ·have:=h.gA r hr;exact ⟨Nat.le_succ_of_le this.1,this.2⟩
  ·exact ⟨Nat.le_succ _,hk⟩
theorem MM.Up {fuel:Nat} {m:MM} (h:nG fuel m):nG fuel m.fin:=by
 cases hl:m.regs.getLast? with
 | none=>unfold MM.fin;rw [hl];exact h
 | some r =>
  have ef:m.fin={ m with live:=m.live - r.cells,regs:=m.regs.dropLast }:=by unfold MM.fin;rw [hl]
  rw [ef]
  have e:m.regs.dropLast++[r]=m.regs:=by
   rw [List.getLast?_eq_some_iff] at hl
   obtain ⟨ys,hy⟩:=hl
   rw [hy];simp
  have hs:j9 m.regs=j9 m.regs.dropLast+r.cells:=by
   conv=>lhs;rw [<- e]
   simp [oB,j9]
  have h1:=h.live
  have h2:=h.sum
  refine ⟨h.steps,h.cells,?_,?_,h.most,h.named,h.cell,?_,?_⟩
  ·show m.live - r.cells=((j9 m.regs.dropLast:Nat):Int);rw [h1,hs];omega
  ·show j9 m.regs.dropLast<=m.cells.length;omega
  ·show m.regs.dropLast.length<=_;have:=h.regs;simp;omega
  ·intro x hx
   exact h.gA x (by rw [<- e];exact List.mem_append_left _ hx)
theorem MM.FB {fuel:Nat} {m:MM} (h:nG fuel m) (k:Int) (a b:MV) (ha:a.bd) (hb:b.bd) (hc:m.cells.length < m.steps) (hf:fuel<=20000):nG fuel (m.aX k a b).2/\(m.aX k a b).1.bd:=by
 cases hr:m.regs[m.home k]? with
 | none=>unfold MM.aX;rw [hr];exact ⟨h,sE⟩
 | some r =>
  have ef:m.aX k a b=(⟨true,m.cells.length⟩,{ m with regs:=m.regs.set (m.home k) { r with cells:=r.cells+1 },cells:=m.cells++[⟨a,b,m.home k,r.gA⟩],live:=m.live+1,most:=if m.most < m.live+1 then m.live+1 else m.most }):=by unfold MM.aX;rw [hr]
  rw [ef]
  have h1:=h.live
  have h2:=h.sum
  have h3:=h.most
  have hm:=List.mem_of_getElem? hr
  have h4:=sF m.regs (m.home k) r { r with cells:=r.cells+1 } hr
  simp only at h4
  have hlt:=(List.getElem?_eq_some_iff.1 hr).1
  have hst:=h.steps
  refine ⟨⟨h.steps,?_,?_,?_,?_,h.named,?_,?_,?_⟩,?_⟩
  ·simp;omega
  ·show m.live+1=((j9 (m.regs.set (m.home k) { r with cells:=r.cells+1 }):Nat):Int);rw [h1];omega
  ·show j9 (m.regs.set (m.home k) { r with cells:=r.cells+1 })<=(m.cells++_).length;simp only [List.length_append,List.length_cons,List.length_nil];omega
  ·show 0<=(if m.most < m.live+1 then m.live+1 else m.most)/\(if m.most < m.live+1 then m.live+1 else m.most)<=((m.cells++_).length:Int)
   simp only [List.length_append,List.length_cons,List.length_nil]
   split <;> omega
  ·intro c hc
   simp only [List.mem_append,List.mem_singleton] at hc
   rcases hc with hc | rfl
   ·exact h.cell c hc
   ·refine ⟨ha,hb,?_,(h.gA r hm).1⟩
    have:=h.regs
    show m.home k<=20000
    omega
  ·show (m.regs.set _ _).length<=_;rw [List.length_set];exact h.regs
  ·intro x hx
   rcases List.mem_or_eq_of_mem_set hx with hx | rfl
   ·exact h.gA x hx
   ·exact h.gA r hm
  ·simp only [MV.bd];omega
theorem Dc {α:Type} (l:List α) (i:Nat) (d:α) (h:i < l.length):l.getD i d∈l:=by
 rw [List.getD_eq_getElem?_getD,List.getElem?_eq_getElem h];simp
theorem MM.FC {fuel:Nat} {m:MM} (h:nG fuel m) (v:MV):nG fuel (m.use v).2/\(m.use v).1.a.bd/\(m.use v).1.b.bd:=by
 unfold MM.use
 split
 ·exact ⟨h,sE,sE⟩
 ·rename_i hn
  have hlt:v.n.toNat < m.cells.length:=by omega
  have hm:=h.cell _ (Dc m.cells v.n.toNat c0 hlt)
  refine ⟨?_,hm.1,hm.2.1⟩
  simp only
  split
  ·exact h
  ·exact MM.Hs h 13
theorem MM.vL {fuel:Nat} {m:MM} (h:nG fuel m) (i:Int) (v:MV) (hv:v.bd):nG fuel (m.name i v):=by
 unfold MM.name
 split
 ·refine ⟨h.steps,h.cells,h.live,h.sum,h.most,?_,h.cell,h.regs,h.gA⟩
  intro x hx
  rcases List.mem_or_eq_of_mem_set hx with hx | rfl
  ·exact h.named x hx
  ·exact hv
 ·exact h
theorem MM.Qn {fuel:Nat} {m:MM} (h:nG fuel m) (i:Int):(m.look i).bd:=by
 unfold MM.look
 split
 ·exact sE
 ·exact h.named _ (Dc _ _ _ (by omega))
theorem Mq (k:Kw) (a b:Int):(⟨false,gQ k a b⟩:MV).bd:=by
 unfold MV.bd gQ
 simp only
 have h1:=Int.tmod_lt_of_pos (a+b) (show (0:Int) < 10000 by omega)
 have h2:=Int.tmod_lt_of_pos (a+10000 - b) (show (0:Int) < 10000 by omega)
 have h3:=Int.lt_tmod_of_pos (a+b) (show (0:Int) < 10000 by omega)
 have h4:=Int.lt_tmod_of_pos (a+10000 - b) (show (0:Int) < 10000 by omega)
 split
 ·omega
 ·split
  ·omega
  ·split <;> omega
structure Grow (n:Nat) (m m':MM):Prop where
 st:m.steps<=m'.steps
 fl:m.fault≠0->m'.fault≠0/\m'.steps=m.steps
 op:m'.opened+20000 * m.steps+(if m'.fault=0 then 20000 else 0)<=m.opened+20000 * m'.steps+n
 rg:m'.regs.length=m.regs.length
 nm:m'.named.length=m.named.length
 cl:m'.cells.length+m.steps<=m.cells.length+m'.steps
structure eD (n s:Nat) (m m':MM):Prop where
 st:m.steps<=m'.steps
 op:m'.opened+20000 * m.steps<=m.opened+20000 * m'.steps+n
 rg:m'.regs.length=m.regs.length
 nm:m'.named.length=m.named.length
 cl:m'.cells.length+m.steps<=m.cells.length+m'.steps+s
theorem eD.refl (m:MM):eD 0 0 m m:=⟨Nat.le_refl _,by omega,rfl,rfl,by omega⟩
theorem Grow.inner {n:Nat} {m m':MM} (h:Grow n m m'):eD n 0 m m':=⟨h.st,by have:=h.op;split at this <;> omega,h.rg,h.nm,by have:=h.cl;omega⟩
theorem eD.trans {n n' s s':Nat} {m m1 m2:MM} (h:eD n s m m1) (h':eD n' s' m1 m2):eD (n+n') (s+s') m m2:=by
 have:=h.st;have:=h'.st;have:=h.op;have:=h'.op;have:=h.cl;have:=h'.cl
 exact ⟨by omega,by omega,h'.rg.trans h.rg,h'.nm.trans h.nm,by omega⟩
theorem eD.le {n n' s s':Nat} {m m1:MM} (h:eD n s m m1) (hn:n<=n') (hs:s<=s'):eD n' s' m m1:=by
 have:=h.op;have:=h.cl
 exact ⟨h.st,by omega,h.rg,h.nm,by omega⟩
theorem wX (m:MM) (f:Nat):eD 0 0 m (m.stop f):=by
 unfold MM.stop;split
 ·exact ⟨Nat.le_refl _,by simp only;omega,rfl,rfl,by simp only;omega⟩
 ·exact eD.refl m
theorem JI (m:MM) (v:MV):eD 0 0 m (m.use v).2:=by
 unfold MM.use;split
 ·exact eD.refl m
 ·simp only;split
  ·exact eD.refl m
  ·exact wX m 13
theorem mX (m:MM) (i:Int) (v:MV):eD 0 0 m (m.name i v):=by
 unfold MM.name;split
 ·exact ⟨Nat.le_refl _,by simp only;omega,rfl,by simp,by simp only;omega⟩
 ·exact eD.refl m
theorem gR (m:MM) (i:Int) (v:MV):(m.name i v).fault=m.fault/\(m.name i v).steps=m.steps:=by unfold MM.name;split <;> exact ⟨rfl,rfl⟩
theorem FD (m:MM) (k:Int) (a b:MV):eD 0 1 m (m.aX k a b).2:=by
 cases hr:m.regs[m.home k]? with
 | none=>unfold MM.aX;rw [hr];exact (eD.refl m).le (Nat.le_refl _) (by omega)
 | some r =>
  have ef:m.aX k a b=(⟨true,m.cells.length⟩,{ m with regs:=m.regs.set (m.home k) { r with cells:=r.cells+1 },cells:=m.cells++[⟨a,b,m.home k,r.gA⟩],live:=m.live+1,most:=if m.most < m.live+1 then m.live+1 else m.most }):=by unfold MM.aX;rw [hr]
  rw [ef]
  exact ⟨Nat.le_refl _,by simp only;omega,by simp,rfl,by simp;omega⟩
def wY (fuel n:Nat) (m:MM) (x:MV × MM):Prop:=nG fuel x.2/\x.1.bd/\Grow n m x.2
def o7 (fuel n s:Nat) (m:MM) (x:MV × MM):Prop:=nG fuel x.2/\x.1.bd/\eD n s m x.2
theorem oC {fuel n:Nat} {m:MM} {f:MM->MV × MM} (h:nG fuel m) (hf:m.fault=0->m.steps < fuel->nG fuel { m with steps:=m.steps+1 }->o7 fuel n 1 { m with steps:=m.steps+1 } (f { m with steps:=m.steps+1 })):wY fuel (1+n) m (ba fuel m f):=by
 unfold ba
 by_cases mG:fuel<=m.steps
 ·simp only [if_pos mG]
  have hne:(m.stop 12).fault≠0:=by unfold MM.stop;split <;> simp_all
  simp only [if_pos hne]
  have hi:=wX m 12
  have hs:(m.stop 12).steps=m.steps:=by unfold MM.stop;split <;> rfl
  refine ⟨MM.Hs h 12,sE,⟨hi.st,fun _=>⟨hne,hs⟩,?_,hi.rg,hi.nm,?_⟩⟩
  ·have:=hi.op;rw [if_neg hne];simp only at this ⊢;omega
  ·have:=hi.cl;simp only at this ⊢;omega
 ·simp only [if_neg mG]
  by_cases hz:m.fault=0
  ·rw [if_neg (fun hn=>hn hz)]
   have hst:=h.steps
   have hb:nG fuel { m with steps:=m.steps+1 }:=⟨by simp only;omega,Nat.le_succ_of_le h.cells,h.live,h.sum,h.most,h.named,h.cell,h.regs,h.gA⟩
   obtain ⟨h1,h2,h3⟩:=hf hz (by omega) hb
   generalize f { m with steps:=m.steps+1 }=y at h1 h2 h3
   have q1:=h3.st;have q2:=h3.op;have q3:=h3.cl
   simp only at q1 q2 q3
   have q4:(if y.2.fault=0 then 20000 else 0)<=20000:=by split <;> decide
   exact ⟨h1,h2,⟨by omega,fun hn=>absurd hz hn,by omega,h3.rg,h3.nm,by omega⟩⟩
  ·simp only [if_pos hz]
   exact ⟨h,sE,⟨Nat.le_refl _,fun _=>⟨hz,rfl⟩,by simp only [if_neg hz];omega,rfl,rfl,by simp only;omega⟩⟩
theorem uF {fuel n:Nat} (hn:n<=20000) {i:Int} {f:MM->MV × MM} {R:Nat} (hf:∀ m,nG fuel m->m.regs.length=R->wY fuel n m (f m)):∀ (k:Nat) (x:MV) (m:MM),nG fuel m->x.bd->m.regs.length=R->o7 fuel n 0 m (cD i f k x m)
 | 0,x,m,hm,hx,_=>⟨hm,hx,(eD.refl m).le (Nat.zero_le _) (Nat.le_refl _)⟩
 | k+1,x,m,hm,hx,hR=>by
  simp only [cD]
  split
  ·exact ⟨hm,hx,(eD.refl m).le (Nat.zero_le _) (Nat.le_refl _)⟩
  ·rename_i hz
   have hz:m.fault=0:=by simpa using hz
   have hni:=mX m i x
   obtain ⟨h1,h2,h3⟩:=hf (m.name i x) (MM.vL hm i x hx) (hni.rg.trans hR)
   have hnf:=gR m i x
   have ih:=uF (i:=i) hn hf k (f (m.name i x)).1 (f (m.name i x)).2 h1 h2 (h3.rg.trans (hni.rg.trans hR))
   by_cases hf1:(f (m.name i x)).2.fault=0
   ·refine ⟨ih.1,ih.2.1,?_⟩
    have a:=ih.2.2
    have q1:=h3.op
    rw [if_pos hf1] at q1
    have q2:=hni.op;have q3:=hni.cl;have q4:=h3.cl;have q5:=h3.st;have q6:=a.op;have q7:=a.cl;have q8:=a.st
    exact ⟨by omega,by omega,a.rg.trans (h3.rg.trans hni.rg),a.nm.trans (h3.nm.trans hni.nm),by omega⟩
   ·have e:cD i f k (f (m.name i x)).1 (f (m.name i x)).2=((f (m.name i x)).1,(f (m.name i x)).2):=by
     cases k with
     | zero=>rfl
     | succ k=>simp only [cD];rw [if_pos hf1]
    rw [e]
    have:=hni.trans h3.inner
    exact ⟨h1,h2,this.le (by omega) (by omega)⟩
mutual
def PT.jr:PT->Prop
 | .num _ s=>0<=aq s/\aq s<=9999
 | .name _ _=>True
 | .node _ _ _ rg kids=>(0<=aq rg/\aq rg<=9999)/\cL kids
def cL:List PT->Prop
 | []=>True
 | t::r=>t.jr/\cL r
end
mutual
theorem du (fuel:Nat) (mG:fuel<=20000):∀ (t:PT) (sc:Sc) (base:Nat) (m:MM),t.wf->t.jr->nG fuel m->m.regs.length+t.cnt<=20000->wY fuel t.cnt m (mW fuel t sc base m)
 | .num p s,sc,base,m,_,hr,hb,_=>by
  simp only [PT.jr] at hr
  simp only [mW,PT.cnt]
  exact oC (n:=0) hb (fun _ _ hb=>⟨hb,by simp only [MV.bd];omega,(eD.refl _).le (Nat.le_refl _) (by omega)⟩)
 | .name p s,sc,base,m,_,_,hb,_=>by
  simp only [mW,PT.cnt]
  exact oC (n:=0) hb (fun _ _ hb=>⟨hb,MM.Qn hb _,(eD.refl _).le (Nat.le_refl _) (by omega)⟩)
 | .node p k nm rg kids,sc,base,m,hw,hr,hb,hl=>by
  simp only [PT.wf] at hw
  simp only [PT.jr] at hr
  simp only [PT.cnt] at hl
  simp only [mW,PT.cnt]
  by_cases hk:k=.new
  ·subst hk
   simp only [if_pos]
   exact FE fuel mG (aq rg) (by omega) kids sc base m hw.1 hw.2 hr.2 hb hl
  ·simp only [if_neg hk]
   refine oC hb (fun hz hlt hb1=>?_)
   by_cases hk1:k=.aT
   ·subst hk1
    simp only [if_pos]
    exact FF fuel mG nm kids sc base _ hw.1 hw.2 hr.2 hb1 (by simp only;omega)
   ·simp only [if_neg hk1]
    by_cases hk2:k=.dQ
    ·subst hk2
     simp only [if_pos]
     exact JJ fuel mG kids sc base _ hw.1 hw.2 hr.2 hb1 (by simp only;omega)
    ·simp only [if_neg hk2]
     by_cases qt:k=.loop
     ·subst qt
      simp only [if_pos]
      exact Dd fuel mG nm kids sc base _ hw.1 hw.2 hr.2 hb1 (by simp only;omega)
     ·simp only [if_neg qt]
      have:=hb.cells
      exact FG fuel mG k (aq rg) kids sc base _ hw.2 hr.2 hb1 (by simp only;omega) (by simp only;omega)
theorem FE (fuel:Nat) (mG:fuel<=20000) (rg:Int) (hrg:-1<=rg/\rg<=9999):∀ (ts:List PT) (sc:Sc) (base:Nat) (m:MM),ts.length=arity .new->oZ ts->cL ts->nG fuel m->m.regs.length+(1+az ts)<=20000->wY fuel (1+az ts) m (pV fuel rg ts sc base m)
 | [a],sc,base,m,_,hw,hr,hb,hl=>by
  simp only [oZ] at hw
  simp only [cL] at hr
  simp only [az] at hl
  simp only [pV,az]
  have h0:=MM.FA hb rg hrg (by omega)
  have ho:(m.opn rg).regs.length=m.regs.length+1:=by simp [MM.opn]
  obtain ⟨h1,h2,h3⟩:=du fuel mG a sc base (m.opn rg) hw.1 hr.1 h0 (by omega)
  have e1:(m.opn rg).steps=m.steps:=rfl
  have e2:(m.opn rg).fault=m.fault:=rfl
  have e3:(m.opn rg).opened=m.opened+1:=rfl
  have e4:(m.opn rg).named=m.named:=rfl
  have e5:(m.opn rg).cells=m.cells:=rfl
  generalize mW fuel a sc base (m.opn rg)=x at h1 h2 h3
  have hrl:=h3.rg
  have hfin:x.2.fin.steps=x.2.steps/\x.2.fin.fault=x.2.fault/\x.2.fin.opened=x.2.opened/\x.2.fin.named=x.2.named/\x.2.fin.cells=x.2.cells/\x.2.fin.regs.length=x.2.regs.length - 1:=by
   unfold MM.fin
   cases hg:x.2.regs.getLast? with
   | none => have:x.2.regs=[]:=by simpa using hg
             rw [this] at hrl;simp at hrl;omega
   | some r=>exact ⟨rfl,rfl,rfl,rfl,rfl,by simp⟩
  obtain ⟨f1,f2,f3,f4,f5,f6⟩:=hfin
  have g1:=h3.st;have g2:=h3.fl;have g3:=h3.op;have g4:=h3.nm;have g5:=h3.cl
  rw [e1] at g1 g2 g3 g5
  rw [e2] at g2
  rw [e3] at g3
  rw [e4] at g4
  rw [e5] at g5
  refine ⟨MM.Up h1,h2,⟨by rw [f1];exact g1,by rw [f1,f2];exact g2,?_,by rw [f6];omega,by rw [f4];exact g4,by rw [f5,f1];exact g5⟩⟩
  rw [f3,f2,f1]
  omega
 | [],_,_,_,hl,_,_,_,_=>by simp [arity] at hl
 | _::_::_,_,_,_,hl,_,_,_,_=>by simp [arity] at hl
theorem FF (fuel:Nat) (mG:fuel<=20000) (nm:List UInt8):∀ (ts:List PT) (sc:Sc) (base:Nat) (m:MM),ts.length=arity .aT->oZ ts->cL ts->nG fuel m->m.regs.length+(1+az ts)<=20000->o7 fuel (az ts) 1 m (sD fuel nm ts sc base m)
 | [a,b],sc,base,m,_,hw,hr,hb,hl=>by
  simp only [oZ] at hw
  simp only [cL] at hr
  simp only [az] at hl
  simp only [sD,az]
  obtain ⟨h1,h2,h3⟩:=du fuel mG a sc base m hw.1 hr.1 hb (by omega)
  generalize mW fuel a sc base m=x at h1 h2 h3
  have hrl:=h3.rg
  have hn:=mX x.2 (((base+a.cnt:Nat):Int) - 1) x.1
  have ZZ:=hn.rg
  obtain ⟨k1,k2,k3⟩:=du fuel mG b (sc++[(nm,((base+a.cnt:Nat):Int) - 1)]) (base+a.cnt) _ hw.2.1 hr.2.1 (MM.vL h1 (((base+a.cnt:Nat):Int) - 1) x.1 h2) (by omega)
  exact ⟨k1,k2,(h3.inner.trans (hn.trans k3.inner)).le (by omega) (by omega)⟩
 | [],_,_,_,hl,_,_,_,_=>by simp [arity] at hl
 | [_],_,_,_,hl,_,_,_,_=>by simp [arity] at hl
 | _::_::_::_,_,_,_,hl,_,_,_,_=>by simp [arity] at hl
theorem JJ (fuel:Nat) (mG:fuel<=20000):∀ (ts:List PT) (sc:Sc) (base:Nat) (m:MM),ts.length=arity .dQ->oZ ts->cL ts->nG fuel m->m.regs.length+(1+az ts)<=20000->o7 fuel (az ts) 1 m (Fz fuel ts sc base m)
 | [a,b,c],sc,base,m,_,hw,hr,hb,hl=>by
  simp only [oZ] at hw
  simp only [cL] at hr
  simp only [az] at hl
  simp only [Fz,az]
  obtain ⟨h1,h2,h3⟩:=du fuel mG a sc base m hw.1 hr.1 hb (by omega)
  generalize mW fuel a sc base m=x at h1 h2 h3
  have hrl:=h3.rg
  split
  ·obtain ⟨k1,k2,k3⟩:=du fuel mG b sc (base+a.cnt) x.2 hw.2.1 hr.2.1 h1 (by omega)
   exact ⟨k1,k2,(h3.inner.trans k3.inner).le (by omega) (by omega)⟩
  ·obtain ⟨k1,k2,k3⟩:=du fuel mG c sc (base+a.cnt+b.cnt) x.2 hw.2.2.1 hr.2.2.1 h1 (by omega)
   exact ⟨k1,k2,(h3.inner.trans k3.inner).le (by omega) (by omega)⟩
 | [],_,_,_,hl,_,_,_,_=>by simp [arity] at hl
 | [_],_,_,_,hl,_,_,_,_=>by simp [arity] at hl
 | [_,_],_,_,_,hl,_,_,_,_=>by simp [arity] at hl
 | _::_::_::_::_,_,_,_,hl,_,_,_,_=>by simp [arity] at hl
theorem Dd (fuel:Nat) (mG:fuel<=20000) (nm:List UInt8):∀ (ts:List PT) (sc:Sc) (base:Nat) (m:MM),ts.length=arity .loop->oZ ts->cL ts->nG fuel m->m.regs.length+(1+az ts)<=20000->o7 fuel (az ts) 1 m (kU fuel nm ts sc base m)
 | [a,b,c],sc,base,m,_,hw,hr,hb,hl=>by
  simp only [oZ] at hw
  simp only [cL] at hr
  simp only [az] at hl
  simp only [kU,az]
  obtain ⟨h1,h2,h3⟩:=du fuel mG a sc base m hw.1 hr.1 hb (by omega)
  generalize mW fuel a sc base m=x at h1 h2 h3
  have hrl:=h3.rg
  obtain ⟨k1,k2,k3⟩:=du fuel mG b sc (base+a.cnt) x.2 hw.2.1 hr.2.1 h1 (by omega)
  generalize mW fuel b sc (base+a.cnt) x.2=y at k1 k2 k3
  have abI:=k3.rg
  obtain ⟨l1,l2,l3⟩:=uF (n:=c.cnt) (by omega) (i:=((base+a.cnt+b.cnt:Nat):Int) - 1) (R:=y.2.regs.length) (f:=fun m=>mW fuel c (sc++[(nm,((base+a.cnt+b.cnt:Nat):Int) - 1)]) (base+a.cnt+b.cnt) m)
   (fun m hm hR=>du fuel mG c _ (base+a.cnt+b.cnt) m hw.2.2.1 hr.2.2.1 hm (by omega)) x.1.n.toNat y.1 y.2 k1 k2 rfl
  exact ⟨l1,l2,(h3.inner.trans (k3.inner.trans l3)).le (by omega) (by omega)⟩
 | [],_,_,_,hl,_,_,_,_=>by simp [arity] at hl
 | [_],_,_,_,hl,_,_,_,_=>by simp [arity] at hl
 | [_,_],_,_,_,hl,_,_,_,_=>by simp [arity] at hl
 | _::_::_::_::_,_,_,_,hl,_,_,_,_=>by simp [arity] at hl
theorem FG (fuel:Nat) (mG:fuel<=20000) (k:Kw) (rg:Int):∀ (ts:List PT) (sc:Sc) (base:Nat) (m:MM),oZ ts->cL ts->nG fuel m->m.regs.length+(1+az ts)<=20000->m.cells.length < m.steps->o7 fuel (az ts) 1 m (fN fuel k rg ts sc base m)
 | [a],sc,base,m,hw,hr,hb,hl,_=>by
  simp only [oZ] at hw
  simp only [cL] at hr
  simp only [az] at hl
  simp only [fN,az]
  obtain ⟨h1,h2,h3⟩:=du fuel mG a sc base m hw.1 hr.1 hb (by omega)
  generalize mW fuel a sc base m=x at h1 h2 h3
  have hu:=MM.FC h1 x.1
  refine ⟨hu.1,?_,(h3.inner.trans (JI x.2 x.1)).le (by omega) (by omega)⟩
  simp only
  split
  ·exact hu.2.1
  ·exact hu.2.2
 | [a,b],sc,base,m,hw,hr,hb,hl,hlt=>by
  simp only [oZ] at hw
  simp only [cL] at hr
  simp only [az] at hl
  simp only [fN,az]
  obtain ⟨h1,h2,h3⟩:=du fuel mG a sc base m hw.1 hr.1 hb (by omega)
  generalize mW fuel a sc base m=x at h1 h2 h3
  have hrl:=h3.rg
  obtain ⟨k1,k2,k3⟩:=du fuel mG b sc (base+a.cnt) x.2 hw.2.1 hr.2.1 h1 (by omega)
  generalize mW fuel b sc (base+a.cnt) x.2=y at k1 k2 k3
  have q1:=h3.cl;have q2:=k3.cl
  split
  ·have hc:=MM.FB k1 rg x.1 y.1 h2 k2 (by omega) mG
   exact ⟨hc.1,hc.2,(h3.inner.trans (k3.inner.trans (FD y.2 rg x.1 y.1))).le (by omega) (by omega)⟩
  ·exact ⟨k1,Mq _ _ _,(h3.inner.trans k3.inner).le (by omega) (by omega)⟩
 | [],_,_,m,_,_,hb,_,_=>by simp only [fN];exact ⟨hb,sE,(eD.refl m).le (Nat.zero_le _) (by omega)⟩
 | _::_::_::_,_,_,m,_,_,hb,_,_=>by simp only [fN];exact ⟨hb,sE,(eD.refl m).le (Nat.zero_le _) (by omega)⟩
end
theorem uG {a:Nat} (h:a≠0):((a:Int) == 0)=false:=by rw [beq_eq_false_iff_ne];omega
def Mr (v:MV):List Value:=[.bool v.c,.int .i64 v.n]
def lG (v:MV):Value:=.agg #[.bool v.c,.int .i64 v.n]
def JK (c:MC):List Value:=[.bool c.a.c,.int .i64 c.a.n,.bool c.b.c,.int .i64 c.b.n,.int .i64 c.home,.int .i64 c.gA]
def Ms (c:MC):Value:=.agg #[.bool c.a.c,.int .i64 c.a.n,.bool c.b.c,.int .i64 c.b.n,.int .i64 c.home,.int .i64 c.gA]
def Bj (r:MR):List Value:=[.int .i64 r.num,.int .i64 r.gA,.int .i64 r.cells]
def lQ (tn aO:Value) (fuel:Nat) (nv cv rv:Value) (m:MM):Array Value:=#[tn,aO,.int .i64 fuel,.int .i64 m.steps,.int .i64 m.fault,nv,cv,rv,.int .i64 m.opened,.int .i64 m.live,.int .i64 m.most]
structure iq (mb:Nat) (w:World) (tn aO:Value) (fuel:Nat) (nv cv rv:Value) (m:MM):Prop where
 y:w.heap[mb]?=some (.cells (lQ tn aO fuel nv cv rv m) 120 (0,0))
 nm:w.ownsRow 0 122 2 nv m.named.length (m.named.flatMap Mr)
 cl:w.ownsRow 0 154 6 cv m.cells.length (m.cells.flatMap JK)
 rg:w.ownsRow 0 151 3 rv m.regs.length (m.regs.flatMap Bj)
 ny:nv.ownBlock≠some mb
 cy:cv.ownBlock≠some mb
 ry:rv.ownBlock≠some mb
 nc:apart nv cv
 nr:apart nv rv
 cr:apart cv rv
theorem iq.slt {mb:Nat} {w:World} {tn aO:Value} {fuel:Nat} {nv cv rv:Value} {m:MM} (h:iq mb w tn aO fuel nv cv rv m) :
  (∀ k,nv.ownBlock=some k->k < w.heap.size)/\(∀ k,cv.ownBlock=some k->k < w.heap.size)/\(∀ k,rv.ownBlock=some k->k < w.heap.size)/\mb < w.heap.size :=
 ⟨fun k hk=>(h.nm.lt k hk).2,fun k hk=>(h.cl.lt k hk).2,fun k hk=>(h.rg.lt k hk).2,af h.y⟩
theorem iq.below {mb:Nat} {w w':World} {tn aO:Value} {fuel:Nat} {nv cv rv:Value} {m:MM} (h:iq mb w tn aO fuel nv cv rv m) (hb:Below w.heap.size w w'):iq mb w' tn aO fuel nv cv rv m :=
 ⟨by rw [hb.block mb h.slt.2.2.2];exact h.y,aB h.nm hb,aB h.cl hb,aB h.rg hb,h.ny,h.cy,h.ry,h.nc,h.nr,h.cr⟩
theorem iq.De {mb:Nat} {w:World} {tn aO:Value} {fuel:Nat} {nv cv rv:Value} {m:MM} (h:iq mb w tn aO fuel nv cv rv m) (m':MM) (i:Nat) (u:Value)
  (h1:m'.named=m.named) (h2:m'.cells=m.cells) (h3:m'.regs=m.regs) (ha:(lQ tn aO fuel nv cv rv m).setIfInBounds i u=lQ tn aO fuel nv cv rv m') :
  bz mb mb w (w.setCell ⟨mb,i,none⟩ u) nv cv rv nv cv rv/\iq mb (w.setCell ⟨mb,i,none⟩ u) tn aO fuel nv cv rv m':=by
 have kp:∀ k,k≠mb->(w.setCell ⟨mb,i,none⟩ u).heap[k]?=w.heap[k]?:=fun k hk=>ak _ _ (by simpa using hk)
 refine ⟨⟨rfl,rfl,rfl,by simp only [World.setCell,Array.size_modify];omega,fun k _ hp _ _ _ _=>kp k hp,fun _ h=>Or.inl h,fun _ h=>Or.inl h,fun _ h=>Or.inl h⟩,?_⟩
 refine ⟨by rw [<- ha];exact ay h.y i u,?_,?_,?_,h.ny,h.cy,h.ry,h.nc,h.nr,h.cr⟩
 ·rw [h1];exact ax h.nm (fun k hk=>kp k (fun e=>h.ny (by rw [hk,e])))
 ·rw [h2];exact ax h.cl (fun k hk=>kp k (fun e=>h.cy (by rw [hk,e])))
 ·rw [h3];exact ax h.rg (fun k hk=>kp k (fun e=>h.ry (by rw [hk,e])))
theorem bw {mb:Nat} {w:World} {tn aO:Value} {fuel:Nat} {nv cv rv:Value} {m:MM} (h:w.heap[mb]?=some (.cells (lQ tn aO fuel nv cv rv m) 120 (0,0))) :
  w.cell? ⟨mb,2,none⟩=some (.int .i64 fuel)/\w.cell? ⟨mb,3,none⟩=some (.int .i64 m.steps)/\w.cell? ⟨mb,4,none⟩=some (.int .i64 m.fault)/\w.cell? ⟨mb,5,none⟩=some nv/\w.cell? ⟨mb,6,none⟩=some cv/\w.cell? ⟨mb,7,none⟩=some rv /\
  w.cell? ⟨mb,8,none⟩=some (.int .i64 m.opened)/\w.cell? ⟨mb,9,none⟩=some (.int .i64 m.live)/\w.cell? ⟨mb,10,none⟩=some (.int .i64 m.most):=by
 refine ⟨?_,?_,?_,?_,?_,?_,?_,?_,?_⟩ <;> (rw [aa h];rfl)
theorem sG (mb:Nat) (w:World) (tn aO:Value) (fuel:Nat) (nv cv rv:Value) (m:MM) (f:Nat) (h:iq mb w tn aO fuel nv cv rv m) :
  Calls Tryz.prog 108 #[ptr mb,.int .i64 f] w fun e w'=>e=.returned (.tuple #[])/\bz mb mb w w' nv cv rv nv cv rv/\iq mb w' tn aO fuel nv cv rv (m.stop f):=by
 obtain ⟨_,_,y4,_⟩:=bw h.y
 have f4:w.frozen? ⟨mb,4,none⟩=false:=ag h.y 4
 have nR:=af h.y
 unfold ptr
 by_cases hz:m.fault=0
 ·have hs:m.stop f={ m with fault:=f }:=by unfold MM.stop;rw [if_pos hz]
  have hd:=h.De { m with fault:=f } 4 (.int .i64 f) rfl rfl rfl rfl
  rw [hs]
  rw [hz] at y4
  have HD:Hid _:=hd
  clear h hd hs hz
  go_enter Tryz.func108,Tryz.ntmps108
  go_wp2
  refine bodyPost_end (v:=.tuple #[]) (by simp [results,Tryz.results108,go_sem]) rfl ⟨rfl,HD.out⟩
 ·have hs:m.stop f=m:=by unfold MM.stop;rw [if_neg hz]
  rw [hs]
  have q:((m.fault:Int) == 0)=false:=uG hz
  have HD:Hid _:=h
  clear h hs hz
  go_enter Tryz.func108,Tryz.ntmps108
  go_wp2
  refine bodyPost_end (v:=.tuple #[]) (by simp [results,Tryz.results108,go_sem]) rfl ⟨rfl,bz.refl _ _ _ _ _ _,HD.out⟩
theorem ke {α:Type} (f:α->List Value) (s:Nat) (hs:∀ x,(f x).length=s):∀ (l:List α) (i j:Nat),j < s->(l.flatMap f)[i * s+j]?=(l[i]?).bind (fun x=>(f x)[j]?)
 | [],i,j,_=>by simp
 | x::l,0,j,hj=>by
  rw [List.flatMap_cons,Nat.zero_mul,Nat.zero_add,List.getElem?_append_left (by rw [hs];exact hj)];simp
 | x::l,i+1,j,hj=>by
  rw [List.flatMap_cons,List.getElem?_append_right (by rw [hs,Nat.succ_mul];omega),hs,show (i+1) * s+j - s=i * s+j from by rw [Nat.succ_mul];omega,ke f s hs l i j hj];simp
theorem js {w:World} {base:Nat} {e:TypeId} {size:Nat} {v:Value} {n:Nat} {xs:List Value} (h:w.ownsRow base e size v n xs) (hn:0 < n):∃ g cap,v=.slice (some ⟨g,0,none⟩) n cap:=by
 rcases h.2 with ⟨_,h2⟩ | ⟨g,cap,cur,h1,_⟩
 ·omega
 ·exact ⟨g,cap,h1⟩
theorem kV {w:World} {base:Nat} {e:TypeId} {size:Nat} {v:Value} {n:Nat} {xs:List Value} (h:w.ownsRow base e size v n xs):∃ a cap,v=.slice a n cap:=by
 rcases h.2 with ⟨h1,h2⟩ | ⟨g,cap,cur,h1,_⟩
 ·exact ⟨none,0,by rw [h1,h2]⟩
 ·exact ⟨_,_,h1⟩
theorem uH {w:World} {l:List MV} {g cap:Nat} (h:w.ownsRow 0 122 2 (.slice (some ⟨g,0,none⟩) l.length cap) l.length (l.flatMap Mr)) (k:Nat) (hk:k < l.length) :
  w.cell? ⟨g,k * 2,none⟩=some (.bool l[k].c)/\w.cell? ⟨g,k * 2+1,none⟩=some (.int .i64 l[k].n):=by
 have key:∀ j,j < 2->w.cell? ⟨g,k * 2+j,none⟩=(Mr l[k])[j]?:=by
  intro j hj
  rw [h.cellAt (k * 2+j) (by omega),ke Mr 2 (fun _=>rfl) l k j hj,List.getElem?_eq_getElem hk];rfl
 exact ⟨key 0 (by omega),key 1 (by omega)⟩
theorem Mt (mb:Nat) (w:World) (tn aO:Value) (fuel:Nat) (nv cv rv:Value) (m:MM) (i:Int) (hi:-10000<=i/\i<=10000) (hl:m.named.length<=9000) (h:iq mb w tn aO fuel nv cv rv m) :
  Calls Tryz.prog 109 #[ptr mb,.int .i64 i] w fun e w'=>e=.returned (lG (m.look i))/\Below w.heap.size w w':=by
 obtain ⟨_,_,_,y5,_⟩:=bw h.y
 have nR:=af h.y
 unfold ptr
 by_cases hc:i < 0\/(m.named.length:Int)<=i
 ·have hs:m.look i=v0:=by unfold MM.look;rw [if_pos hc]
  rw [hs]
  obtain ⟨ao,cap,rfl⟩:=kV h.nm
  clear h hs
  unfold lG v0
  generalize m.named.length=n at *
  rcases hc with hc | hc
  ·go_enter Tryz.func109,Tryz.ntmps109
   go_wp2
   refine bodyPost_ret (v:=.agg #[.bool false,.int .i64 0]) (by simp [results,Tryz.results109,go_sem]) rfl ⟨rfl,(Below.refl _ _).alloc (Nat.le_refl _) _⟩
  ·have hc2:¬ i < 0:=by omega
   go_enter Tryz.func109,Tryz.ntmps109
   go_wp2
   refine bodyPost_ret (v:=.agg #[.bool false,.int .i64 0]) (by simp [results,Tryz.results109,go_sem]) rfl ⟨rfl,(Below.refl _ _).alloc (Nat.le_refl _) _⟩
 ·obtain ⟨k,rfl⟩:∃ k:Nat,i=k:=⟨i.toNat,by omega⟩
  have hk:k < m.named.length:=by omega
  obtain ⟨g,cap,rfl⟩:=js h.nm (by omega)
  obtain ⟨c0,c1⟩:=uH h.nm k hk
  have hg:g < w.heap.size:=(h.nm.lt g rfl).2
  have hs:m.look k=m.named[k]:=by
   unfold MM.look
   rw [if_neg (by omega)]
   simp [List.getD_eq_getElem?_getD,hk]
  rw [hs]
  clear h hs hc
  unfold lG
  generalize m.named[k]=v at *
  generalize m.named.length=n at *
  go_enter Tryz.func109,Tryz.ntmps109
  go_wp2
  refine bodyPost_ret (v:=.agg #[.bool v.c,.int .i64 v.n]) (by simp [results,Tryz.results109,go_sem]) rfl ⟨rfl,(Below.refl _ _).alloc (Nat.le_refl _) _⟩
theorem sH (W:World) (B:Obj):Below W.heap.size W (W.alloc B).drew:=((Below.refl _ W).alloc (Nat.le_refl _) B).trans ⟨rfl,rfl,rfl,Nat.le_refl _,fun _ _=>rfl⟩
theorem aat {xs:List Value} {f:MV->List Value} {l:List MV} {k:Nat} {v:MV} (hx:xs=l.flatMap f) (hs:∀ x,(f x).length=2) (a b:Value) (hf:f v=[a,b]) (hk:k < l.length):(xs.set (k * 2) a).set (k * 2+1) b=(l.set k v).flatMap f:=by
 subst hx
 apply List.ext_getElem?
 intro i
 have hlen:(l.flatMap f).length=l.length * 2:=by
  clear hk
  induction l with
  | nil=>rfl
  | cons x l ih=>simp only [List.flatMap_cons,List.length_append,hs,ih,List.length_cons];omega
 have key:=ke f 2 hs (l.set k v) (i / 2) (i % 2) (Nat.mod_lt _ (by omega))
 have FH:=ke f 2 hs l (i / 2) (i % 2) (Nat.mod_lt _ (by omega))
 rw [show i / 2 * 2+i % 2=i from by omega] at key FH
 rw [key]
 by_cases hik:i / 2=k
 ·rw [hik,List.getElem?_set_self hk]
  simp only [Option.bind_some,hf]
  rcases (show i=k * 2\/i=k * 2+1 by omega) with rfl | rfl
  ·rw [List.getElem?_set_ne (by omega),List.getElem?_set_self (by omega)]
   rw [show k * 2 % 2=0 from by omega];rfl
  ·rw [List.getElem?_set_self (by rw [List.length_set,hlen];omega)]
   rw [show (k * 2+1) % 2=1 from by omega];rfl
 ·rw [List.getElem?_set_ne (by omega),List.getElem?_set_ne (by omega),FH,List.getElem?_set_ne (fun e=>hik e.symm)]
theorem iq.aau {mb:Nat} {w:World} {tn aO:Value} {fuel:Nat} {cv rv:Value} {m:MM} {g cap:Nat} (h:iq mb w tn aO fuel (.slice (some ⟨g,0,none⟩) m.named.length cap) cv rv m) (k:Nat) (v:MV) (hk:k < m.named.length) :
  bz mb mb w ((w.setCell ⟨g,k * 2,none⟩ (.bool v.c)).setCell ⟨g,k * 2+1,none⟩ (.int .i64 v.n)) (.slice (some ⟨g,0,none⟩) m.named.length cap) cv rv (.slice (some ⟨g,0,none⟩) m.named.length cap) cv rv /\
  iq mb ((w.setCell ⟨g,k * 2,none⟩ (.bool v.c)).setCell ⟨g,k * 2+1,none⟩ (.int .i64 v.n)) tn aO fuel (.slice (some ⟨g,0,none⟩) m.named.length cap) cv rv { m with named:=m.named.set k v }:=by
 have n8:g≠mb:=fun e=>h.ny (by rw [e];rfl)
 have kp:∀ k',k'≠g->((w.setCell ⟨g,k * 2,none⟩ (.bool v.c)).setCell ⟨g,k * 2+1,none⟩ (.int .i64 v.n)).heap[k']?=w.heap[k']?:=fun k' hk=>by rw [ak _ _ (by simpa using hk),ak _ _ (by simpa using hk)]
 have h1:=(h.nm.stored (k * 2) (.bool v.c)).1
 have h2:=(h1.stored (k * 2+1) (.int .i64 v.n)).1
 rw [aat (v:=v) rfl (fun _=>rfl) (.bool v.c) (.int .i64 v.n) rfl hk] at h2
 refine ⟨⟨rfl,rfl,rfl,by simp only [World.setCell,Array.size_modify];omega,fun k' _ _ _ hs _ _=>kp k' (fun e=>hs (by rw [e];rfl)),fun _ h=>Or.inl h,fun _ h=>Or.inl h,fun _ h=>Or.inl h⟩,?_⟩
 refine ⟨by rw [kp mb (fun e=>n8 e.symm)];exact h.y,by simp only [List.length_set];exact h2,ax h.cl (fun k' hk=>kp k' (fun e=>h.nc g rfl (by rw [<- e];exact hk))),ax h.rg (fun k' hk=>kp k' (fun e=>h.nr g rfl (by rw [<- e];exact hk))),h.ny,h.cy,h.ry,h.nc,h.nr,h.cr⟩
theorem Df (mb:Nat) (w:World) (tn aO:Value) (fuel:Nat) (nv cv rv:Value) (m:MM) (i:Int) (v:MV) (hi:-10000<=i/\i<=10000) (hl:m.named.length<=9000) (h:iq mb w tn aO fuel nv cv rv m) :
  Calls Tryz.prog 125 #[ptr mb,.int .i64 i,lG v] w fun e w'=>e=.returned (.tuple #[])/\bz mb mb w w' nv cv rv nv cv rv/\iq mb w' tn aO fuel nv cv rv (m.name i v):=by
 obtain ⟨B,hB⟩:∃ B:Obj,B=.cells #[.bool v.c,.int .i64 v.n] 122:=⟨_,rfl⟩
 have h':=h.below ((Below.refl _ w).alloc (Nat.le_refl _) B)
 have hfr:bz mb mb w (w.alloc B) nv cv rv nv cv rv:=bz.below mb mb nv cv rv ((Below.refl _ w).alloc (Nat.le_refl _) B)
 obtain ⟨_,_,_,y5,_⟩:=bw h.y
 have nR:=af h.y
 unfold ptr lG
 by_cases hc:0<=i/\i < m.named.length
 ·obtain ⟨k,rfl⟩:∃ k:Nat,i=k:=⟨i.toNat,by omega⟩
  have hk:k < m.named.length:=by omega
  have hs:m.name k v={ m with named:=m.named.set k v }:=by unfold MM.name;rw [if_pos hc];rfl
  rw [hs]
  obtain ⟨g,cap,rfl⟩:=js h.nm (by omega)
  have hset:=h.aau k v hk
  have f0:=h.nm.frozenAt (k * 2)
  have f1:=h.nm.frozenAt (k * 2+1)
  obtain ⟨c0,c1⟩:=uH h.nm k hk
  have hg:g < w.heap.size:=(h.nm.lt g rfl).2
  have HD:Hid _:=hset
  clear h h' hset hs hfr
  subst hB
  generalize m.named[k]=u at c0 c1
  generalize m.named.length=n at *
  go_enter Tryz.func125,Tryz.ntmps125
  go_wp2
  go_region
  all_goals
   go_wp2
   refine bodyPost_end (v:=.tuple #[]) (by simp [results,Tryz.results125,go_sem]) rfl ⟨rfl,?_⟩
   exact ⟨HD.out.1.trans (bz.below mb mb _ _ _ (sH _ _)),HD.out.2.below (sH _ _)⟩
 ·have hs:m.name i v=m:=by unfold MM.name;rw [if_neg hc]
  rw [hs]
  obtain ⟨ao,cap,rfl⟩:=kV h.nm
  have HD:Hid _:=h'
  have HF:Hid _:=hfr
  clear h h' hs hfr
  subst hB
  have hc':i < 0\/(0<=i/\(m.named.length:Int)<=i):=by omega
  generalize m.named.length=n at *
  clear hc
  rcases hc' with hc | ⟨hc1,hc2⟩
  all_goals
   go_enter Tryz.func125,Tryz.ntmps125
   go_wp2
   refine bodyPost_end (v:=.tuple #[]) (by simp [results,Tryz.results125,go_sem]) rfl ⟨rfl,HF.out,HD.out⟩
end Go.Proofs.YtpicaknklgccoabGreatDoor
