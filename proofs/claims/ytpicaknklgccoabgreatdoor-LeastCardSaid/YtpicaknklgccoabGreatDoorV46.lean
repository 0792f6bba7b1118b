import Derived.Test.YtpicaknklgccoabGreatDoorV45
import Derived.Test.YtpicaknklgccoabGreatDoorCards
import Derived.Test.YtpicaknklgccoabGreatDoorTie
import Derived.ProofKit
import Derived.LaidMore
import Derived.Lib.LaidTab
import Derived.Stop.LaidErr
import Derived.OpenShut
import Derived.Deep.DeepHandedRow
import Derived.ChangeSlices
import Derived.Carry
set_option maxRecDepth 100000
namespace Go.Proofs.YtpicaknklgccoabGreatDoor
open Go.ChangeShapes Go.WideShapes Go.ChangeAt Go.RowKit
open Go.ChangeMaps (open_string shut_string)
theorem Tryz.acz:Tryz.prog.globalNamed "internal/strconv.uint64pow10"=some 0:=by kernel_rfl
theorem Tryz.Qg:(Tryz.prog.globals[0]?).map (·.type)=some 168:=by kernel_rfl
theorem Tryz.Tg:Tryz.prog.underlying 168=some (.array 20 139):=by kernel_rfl
theorem Tryz.Qh:Tryz.prog.underlying 139=some (.int .u64):=by kernel_rfl
theorem Qi {W:World} (hL:laidMet Tryz.prog Rows.leastRow.laid W):Lib.TabIs Tryz.prog W "internal/strconv.uint64pow10" .u64 Lib.pow10Tab :=
 Lib.tabIs_of_head (rest:=[]) Tryz.acz Tryz.Qg Tryz.Tg Tryz.Qh (by kernel_rfl) (by kernel_rfl) (show laidMet Tryz.prog [("internal/strconv.uint64pow10",Lib.tabData .u64 Lib.pow10Tab)] W from laidMet.tail (laidMet.tail hL))
theorem Mj:ownKnob Tryz.prog.godebug=none:=by kernel_rfl
theorem Tryz.F2:laidOutB Tryz.prog=true:=by kernel_rfl
theorem Tryz.Qj:Tryz.prog.cellsOf 3=1:=by kernel_rfl
theorem IY {n:Int} (h:(Lit.int .i64 n).wf=true):VA n:=by
 have e1:IntKind.i64.min=-9223372036854775808:=rfl;have e2:IntKind.i64.max=9223372036854775807:=rfl;simp only[Lit.wf,e1,e2,Bool.and_eq_true,decide_eq_true_eq] at h;exact h
theorem Qk {H:Type} {enc:TypeId × Value->H} {W:World} {v:Value} {d:DataW H} {p:List MemPlace} {r:Reach} {b0:Nat} (hval:Value.okWide Tryz.prog W r b0 22 v) (h:DataW.Trod enc Tryz.prog W 0 (λ_=>true) true 22 v d p):∃ raw,tX W v raw:=by
 obtain⟨a0,len,cap,rfl⟩:=okWide_slice Tryz.underlying22 hval;obtain⟨fuel,hf⟩:=h
 rcases open_ints Tryz.underlying22 Tryz.underlying3 Tryz.Qj hf with ⟨hcs,_⟩ | ⟨a,len',cap',zs,hcs,_,hl,hm,hz,_,hcell,hwz⟩
 ·simp[Value.cells] at hcs
  obtain⟨rfl,rfl,rfl⟩:=hcs;exact⟨[],by simp,Or.inl ⟨rfl,rfl⟩⟩
 ·simp[Value.cells] at hcs
  obtain⟨rfl,rfl,rfl⟩:=hcs;simp only[if_true] at hz
  have htl:(zs.take len).length=len:=by rw[List.length_take];omega
  refine⟨zs.take len,λc hc=>IY (hwz c (List.mem_of_mem_take hc)),Or.inr ⟨a,cap,by rw[htl],by omega,λi c hi=>?_⟩⟩;have mG:=(List.getElem?_eq_some_iff.1 hi).1;rw[htl] at mG;rw[hcell i (by omega),List.getD_eq_getElem?_getD];rw[List.getElem?_take_of_lt mG] at hi;rw[hi];rfl
theorem Ag (H:Type) (enc:TypeId × Value->H) (W:World) (base:Nat) (args:Array Value) (ds gs:List (DataW H)) (before:List MemPlace) (hL:laidMet Tryz.prog Rows.leastRow.laid W)
  (hval:∀ (j:Nat) t v,Tryz.f5.params[j]?=some t->args[j]?=some v->Value.okWide Tryz.prog W .any base t v)
  (hW:DataW.Whole enc Tryz.prog Tryz.f5.params.toList Rows.leastSpec.vars false W args.toList ds gs before) :
  Calls Tryz.prog 5 args W λe W'=>∃ v,e=.returned v/\Rows.leastSpec.post enc Tryz.prog Tryz.f5 false true false false W args v W':=by
 have hW':=hW;obtain⟨p,q,hA0,hV,rfl,hfz,hnd⟩:=hW;have hA:DataW.TrodAll enc Tryz.prog W 0 (λ_=>true) true Tryz.f5.params.toList args.toList ds p:=hA0;rw[Tryz.params5] at hA hval;obtain⟨v0,vs0,d0,ds0,p0,q0,hargs,rfl,rfl,h0,r0⟩:=trodAll_cons hA;obtain⟨v1,vs1,d1,ds1,p1,q1,acA,rfl,rfl,h1,r1⟩:=trodAll_cons r0;obtain⟨v2,vs2,d2,ds2,p2,q2,acB,rfl,rfl,h2,r2⟩:=trodAll_cons r1;obtain⟨v3,vs3,d3,ds3,p3,q3,acC,rfl,rfl,h3,r3⟩:=trodAll_cons r2;obtain⟨rfl,rfl,rfl⟩:=trodAll_nil r3
 obtain rfl:args=#[v0,v1,v2,v3]:=by cases args;simp_all
 obtain⟨rfl,rfl⟩:=trodVars_none hV;obtain⟨n,rfl,rfl,rfl,hn⟩:=open_int Tryz.underlying3 (hval 0 3 v0 rfl rfl) h0;obtain⟨m,rfl,rfl,rfl,hm⟩:=open_int Tryz.underlying3 (hval 3 3 v3 rfl rfl) h3;obtain⟨raw,acD⟩:=Qk (hval 1 22 v1 rfl rfl) h1;obtain⟨mks,acE⟩:=Qk (hval 2 22 v2 rfl rfl) h2;clear hA0;simp only[List.append_nil,List.nil_append] at hW'
 have hlt:∀ x∈p1++p2,x.block<W.heap.size:=λx hx=>by simpa using hW'.lt x hx
 refine (Mi n m v1 v2 raw mks W (IY hn) (IY hm) acD acE (Qi hL)).mono λe W' ⟨he,hB⟩=>?_
 subst he;have Xu:DataW.Trod enc Tryz.prog W' 0 (λb=>decide (b<W.heap.size)) true 22 v1 d1 p1:=Below.trod Tryz.F2 (by kernel_rfl) (of_decide_eq_true (by kernel_rfl)) h1 hB (λx hx=>hlt x (List.mem_append_left _ hx));have Th:DataW.Trod enc Tryz.prog W' 0 (λb=>decide (b<W.heap.size)) true 22 v2 d2 p2:=Below.trod Tryz.F2 (by kernel_rfl) (of_decide_eq_true (by kernel_rfl)) h2 hB (λx hx=>hlt x (List.mem_append_right _ hx));have e1:Rows.leastSpec.fn H ([.lit (.int .i64 n),d1,d2,.lit (.int .i64 m)]++[])={ results:=[.lit (.bool true)],args:=[.lit (.int .i64 n),d1,d2,.lit (.int .i64 m)] }:=rfl;have t4:=trodAll_mk4 (shut_int (enc:=enc) (w:=W') (base:=0) (spare:=λb=>decide (b<W.heap.size)) (held:=true) Tryz.underlying3 hn) Xu Th (shut_int (enc:=enc) (w:=W') (base:=0) (spare:=λb=>decide (b<W.heap.size)) (held:=true) Tryz.underlying3 hm);simp only[List.append_nil,List.nil_append] at t4;refine⟨_,rfl,_,_,_,[],p1++p2,[],hW',?_,?_,?_,hB.frame _,λh=>by cases h⟩
 ·rw[e1];exact trodAll_mk1 (shut_bool Tryz.underlying4 true)
 ·rw[e1];exact t4
 ·rw[e1];rfl
noncomputable def tB (os:Os):World:=World.doorLaid Tryz.prog 400 os
theorem Mk (os:Os):laidMet Tryz.prog Rows.leastRow.laid ((tB os).forCall (λ_ _=>0) ⟨#[],#[.int .i64 0,.slice none 0 0,.slice none 0 0,.int .i64 0],[]⟩).memory :=
 laidMet_of_run' 8 (by kernel_rfl) (by kernel_rfl)
theorem F3 (os:Os) {H:Type} (enc:TypeId × Value->H):∃ places,DataW.whole enc Tryz.prog ((tB os).forCall (λ_ _=>0) ⟨#[],#[.int .i64 0,.slice none 0 0,.slice none 0 0,.int .i64 0],[]⟩).memory Tryz.f5.params.toList Rows.leastSpec.vars false #[Value.int .i64 0,.slice none 0 0,.slice none 0 0,.int .i64 0].toList 8=some ([.lit (.int .i64 0),.nil,.nil,.lit (.int .i64 0)],[],places) :=
 ⟨[],by kernel_rfl⟩
theorem Dr (os:Os) (started:os.Started) (H:Type) (enc:TypeId × Value->H) (F:Stop.Interp) :
  ReturnsInHanded {} Tryz.checked os 5 .any ((OpenSpec.ofChange Rows.leastSpec).preRow enc Tryz.prog Tryz.f5 Rows.leastRow.domain false Rows.leastRow.laid) (((OpenSpec.ofChange Rows.leastSpec).at F).post enc Tryz.prog Tryz.f5 false true false false):=by
 obtain⟨places,hx⟩:=F3 os enc
 refine returnsInHanded_of_row (C:=Tryz.checked) (s:=OpenSpec.ofChange Rows.leastSpec) Mj started (by kernel_rfl) Tryz.func5
  (witness_row_at (enc:=enc) (C:=Tryz.checked) false (tB os) #[.int .i64 0,.slice none 0 0,.slice none 0 0,.int .i64 0] rfl (by kernel_rfl) (by kernel_rfl) (by kernel_rfl)
   (OpenSpec.preRow_of_cond 8 hx (by kernel_rfl) (λk hk=>by cases hk) (by kernel_rfl) (Mk os))) ?_
 intro W base args ds gs before hval hW _ _ _ hL _ _;exact Ag H enc W base args ds gs before hL hval hW
theorem IZ:Rows.LeastSaid :=
 OpenClaim.holds_of_cond 5 Tryz.f5 rfl rfl rfl rfl rfl rfl rfl ⟨rfl,rfl,rfl,rfl,rfl⟩ rfl rfl rfl rfl rfl (by kernel_rfl) Tryz.func5 (by kernel_rfl)
  (of_decide_eq_true (by kernel_rfl)) (by unfold Func.isWrapper;first | (rw[if_pos (by decide +kernel)];kernel_rfl) | (rw[if_neg (by decide +kernel)];exact⟨rfl,rfl⟩))
  (λos started H enc _ F=>by rw[OpenClaim.pre_eq_preRow];exact Dr os started H enc F)
theorem F4 (f:FuncId) (fn:Func) (hf:Tryz.pinned.checked.prog.funcNamed "lease/leasekeep.Least"=some f) (hfn:Tryz.pinned.checked.prog.funcs[f]?=some fn) :
  false=Tryz.pinned.checked.prog.looks []/\∀ (j:Nat) t,fn.params[j]?=some t->Tryz.pinned.checked.prog.wantsStandIn t=false:=by
 obtain rfl:f=5:=Option.some.inj ((show Tryz.prog.funcNamed "lease/leasekeep.Least"=some 5 by kernel_rfl).symm.trans hf) |>.symm
 obtain rfl:fn=Tryz.f5:=(Option.some.inj (Tryz.func5.symm.trans hfn)).symm;refine⟨by kernel_rfl,λj t ht=>?_⟩;rw[Tryz.params5] at ht
 have hm:t=3\/t=22:=by
  have:=Array.mem_of_getElem? ht;simp at this
  rcases this with h | h | h
  ·exact Or.inl h
  ·exact Or.inr h
  ·exact Or.inl h
 rcases hm with rfl | rfl
 ·exact (show Tryz.prog.wantsStandIn 3=false by kernel_rfl)
 ·exact (show Tryz.prog.wantsStandIn 22=false by kernel_rfl)
theorem least_card:Rows.LeastCardSaid :=
 Claim7.holds_tied_plain_at .later [] _ _ _ _ IZ (λ_ h=>by cases h) (by kernel_rfl) (λ_ h=>by cases h) least_row_tie rfl ⟨rfl,rfl⟩ (by kernel_rfl) rfl F4 (by kernel_rfl)
end Go.Proofs.YtpicaknklgccoabGreatDoor
