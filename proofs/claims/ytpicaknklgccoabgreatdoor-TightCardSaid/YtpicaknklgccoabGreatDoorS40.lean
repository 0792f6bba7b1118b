import Derived.Test.YtpicaknklgccoabGreatDoorS39
import Derived.Test.YtpicaknklgccoabGreatDoorCards
import Derived.Test.YtpicaknklgccoabGreatDoorTie
import Derived.ProofKit
import Derived.LaidMore
import Derived.Lib.LaidTab
import Derived.Stop.LaidErr
import Derived.OpenShut
import Derived.Deep.DeepHandedRow
import Derived.ChangeSlices
import Derived.Carry
set_option maxRecDepth 100000
namespace Go.Proofs.YtpicaknklgccoabGreatDoor
open Go.ChangeShapes Go.WideShapes Go.ChangeAt Go.RowKit
open Go.ChangeMaps (open_string shut_string)
theorem Tryz.abk:Tryz.prog.globalNamed "internal/strconv.uint64pow10"=some 0:=by kernel_rfl
theorem Tryz.OO:(Tryz.prog.globals[0]?).map (·.type)=some 168:=by kernel_rfl
theorem Tryz.RL:Tryz.prog.underlying 168=some (.array 20 139):=by kernel_rfl
theorem Tryz.OP:Tryz.prog.underlying 139=some (.int .u64):=by kernel_rfl
theorem OQ {W:World} (hL:laidMet Tryz.prog Rows.tightRow.laid W):Lib.TabIs Tryz.prog W "internal/strconv.uint64pow10" .u64 Lib.pow10Tab :=
 Lib.tabIs_of_head (rest:=[]) Tryz.abk Tryz.OO Tryz.RL Tryz.OP (by kernel_rfl) (by kernel_rfl) (show laidMet Tryz.prog [("internal/strconv.uint64pow10",Lib.tabData .u64 Lib.pow10Tab)] W from laidMet.tail (laidMet.tail hL))
theorem KM:ownKnob Tryz.prog.godebug=none:=by kernel_rfl
theorem Tryz.EB:laidOutB Tryz.prog=true:=by kernel_rfl
theorem Tryz.OT:Tryz.prog.cellsOf 3=1:=by kernel_rfl
theorem OU {n:Int} (h:(Lit.int .i64 n).wf=true):Wn n:=by
 have e1:IntKind.i64.min=-9223372036854775808:=rfl
 have e2:IntKind.i64.max=9223372036854775807:=rfl
 simp only [Lit.wf,e1,e2,Bool.and_eq_true,decide_eq_true_eq] at h
 exact h
theorem OV {H:Type} {enc:TypeId × Value->H} {W:World} {v:Value} {d:DataW H} {p:List MemPlace} {r:Reach} {b0:Nat} (hval:Value.okWide Tryz.prog W r b0 22 v) (h:DataW.Trod enc Tryz.prog W 0 (fun _=>true) true 22 v d p):∃ raw,qy W v raw:=by
 obtain ⟨a0,len,cap,rfl⟩:=okWide_slice Tryz.underlying22 hval
 obtain ⟨fuel,hf⟩:=h
 rcases open_ints Tryz.underlying22 Tryz.underlying3 Tryz.OT hf with ⟨hcs,_⟩ | ⟨a,len',cap',zs,hcs,_,hl,hm,hz,_,hcell,hwz⟩
 ·simp [Value.cells] at hcs
  obtain ⟨rfl,rfl,rfl⟩:=hcs
  exact ⟨[],by simp,Or.inl ⟨rfl,rfl⟩⟩
 ·simp [Value.cells] at hcs
  obtain ⟨rfl,rfl,rfl⟩:=hcs
  simp only [if_true] at hz
  have htl:(zs.take len).length=len:=by rw [List.length_take];omega
  refine ⟨zs.take len,fun c hc=>OU (hwz c (List.mem_of_mem_take hc)),Or.inr ⟨a,cap,by rw [htl],by omega,fun i c hi=>?_⟩⟩
  have lN:=(List.getElem?_eq_some_iff.1 hi).1
  rw [htl] at lN
  rw [hcell i (by omega),List.getD_eq_getElem?_getD]
  rw [List.getElem?_take_of_lt lN] at hi
  rw [hi];rfl
theorem yM (H:Type) (enc:TypeId × Value->H) (W:World) (base:Nat) (args:Array Value) (ds gs:List (DataW H)) (before:List MemPlace) (hL:laidMet Tryz.prog Rows.tightRow.laid W)
  (hval:∀ (j:Nat) t v,Tryz.f4.params[j]?=some t->args[j]?=some v->Value.okWide Tryz.prog W .any base t v)
  (hW:DataW.Whole enc Tryz.prog Tryz.f4.params.toList Rows.tightSpec.vars false W args.toList ds gs before) :
  Calls Tryz.prog 4 args W fun e W'=>∃ v,e=.returned v/\Rows.tightSpec.post enc Tryz.prog Tryz.f4 false true false false W args v W':=by
 have hW':=hW
 obtain ⟨p,q,hA0,hV,rfl,hfz,hnd⟩:=hW
 have hA:DataW.TrodAll enc Tryz.prog W 0 (fun _=>true) true Tryz.f4.params.toList args.toList ds p:=hA0
 rw [Tryz.params4] at hA hval
 obtain ⟨v0,vs0,d0,ds0,p0,q0,hargs,rfl,rfl,h0,r0⟩:=trodAll_cons hA
 obtain ⟨v1,vs1,d1,ds1,p1,q1,abl,rfl,rfl,h1,r1⟩:=trodAll_cons r0
 obtain ⟨v2,vs2,d2,ds2,p2,q2,abm,rfl,rfl,h2,r2⟩:=trodAll_cons r1
 obtain ⟨rfl,rfl,rfl⟩:=trodAll_nil r2
 obtain rfl:args=#[v0,v1,v2]:=by cases args;simp_all
 obtain ⟨rfl,rfl⟩:=trodVars_none hV
 obtain ⟨n,rfl,rfl,rfl,hn⟩:=open_int Tryz.underlying3 (hval 0 3 v0 rfl rfl) h0
 obtain ⟨raw,abn⟩:=OV (hval 1 22 v1 rfl rfl) h1
 obtain ⟨OJ,Zo⟩:=OV (hval 2 22 v2 rfl rfl) h2
 clear hA0
 simp only [List.append_nil,List.nil_append] at hW'
 have hlt:∀ x∈p1,x.block < W.heap.size:=fun x hx=>by simpa using hW'.lt x (List.mem_append_left _ hx)
 have Jz:∀ x∈p2,x.block < W.heap.size:=fun x hx=>by simpa using hW'.lt x (List.mem_append_right _ hx)
 refine (KK n v1 v2 raw OJ W (OU hn) abn Zo (OQ hL)).mono fun e W' ⟨he,hB⟩=>?_
 subst he
 have VN:DataW.Trod enc Tryz.prog W' 0 (fun b=>decide (b < W.heap.size)) true 22 v1 d1 p1:=Below.trod Tryz.EB (by kernel_rfl) (of_decide_eq_true (by kernel_rfl)) h1 hB hlt
 have RM:DataW.Trod enc Tryz.prog W' 0 (fun b=>decide (b < W.heap.size)) true 22 v2 d2 p2:=Below.trod Tryz.EB (by kernel_rfl) (of_decide_eq_true (by kernel_rfl)) h2 hB Jz
 have e1:Rows.tightSpec.fn H ([.lit (.int .i64 n),d1,d2]++[])={ results:=[.lit (.bool true)],args:=[.lit (.int .i64 n),d1,d2] }:=rfl
 have t3:=trodAll_mk3 (shut_int (enc:=enc) (w:=W') (base:=0) (spare:=fun b=>decide (b < W.heap.size)) (held:=true) Tryz.underlying3 hn) VN RM
 simp only [List.nil_append] at t3
 refine ⟨_,rfl,_,_,_,[],p1++p2,[],hW',?_,?_,?_,hB.frame _,fun h=>by cases h⟩
 ·rw [e1];exact trodAll_mk1 (shut_bool Tryz.underlying4 true)
 ·rw [e1];exact t3
 ·rw [e1];rfl
noncomputable def rP (os:Os):World:=World.doorLaid Tryz.prog 400 os
theorem KN (os:Os):laidMet Tryz.prog Rows.tightRow.laid ((rP os).forCall (fun _ _=>0) ⟨#[],#[.int .i64 0,.slice none 0 0,.slice none 0 0],[]⟩).memory :=
 laidMet_of_run' 8 (by kernel_rfl) (by kernel_rfl)
theorem EC (os:Os) {H:Type} (enc:TypeId × Value->H):∃ places,DataW.whole enc Tryz.prog ((rP os).forCall (fun _ _=>0) ⟨#[],#[.int .i64 0,.slice none 0 0,.slice none 0 0],[]⟩).memory Tryz.f4.params.toList Rows.tightSpec.vars false #[Value.int .i64 0,.slice none 0 0,.slice none 0 0].toList 8=some ([.lit (.int .i64 0),.nil,.nil],[],places) :=
 ⟨[],by kernel_rfl⟩
theorem Ce (os:Os) (started:os.Started) (H:Type) (enc:TypeId × Value->H) (F:Stop.Interp) :
  ReturnsInHanded {} Tryz.checked os 4 .any ((OpenSpec.ofChange Rows.tightSpec).preRow enc Tryz.prog Tryz.f4 Rows.tightRow.domain false Rows.tightRow.laid) (((OpenSpec.ofChange Rows.tightSpec).at F).post enc Tryz.prog Tryz.f4 false true false false):=by
 obtain ⟨places,hx⟩:=EC os enc
 refine returnsInHanded_of_row (C:=Tryz.checked) (s:=OpenSpec.ofChange Rows.tightSpec) KM started (by kernel_rfl) Tryz.func4
  (witness_row_at (enc:=enc) (C:=Tryz.checked) false (rP os) #[.int .i64 0,.slice none 0 0,.slice none 0 0] rfl (by kernel_rfl) (by kernel_rfl) (by kernel_rfl)
   (OpenSpec.preRow_of_cond 8 hx (by kernel_rfl) (fun k hk=>by cases hk) (by kernel_rfl) (KN os))) ?_
 intro W base args ds gs before hval hW _ _ _ hL _ _
 exact yM H enc W base args ds gs before hL hval hW
theorem GL:Rows.TightSaid :=
 OpenClaim.holds_of_cond 4 Tryz.f4 rfl rfl rfl rfl rfl rfl rfl ⟨rfl,rfl,rfl,rfl,rfl⟩ rfl rfl rfl rfl rfl (by kernel_rfl) Tryz.func4 (by kernel_rfl)
  (of_decide_eq_true (by kernel_rfl)) (by unfold Func.isWrapper;first | (rw [if_pos (by decide +kernel)];kernel_rfl) | (rw [if_neg (by decide +kernel)];exact ⟨rfl,rfl⟩))
  (fun os started H enc _ F=>by rw [OpenClaim.pre_eq_preRow];exact Ce os started H enc F)
theorem ED (f:FuncId) (fn:Func) (hf:Tryz.pinned.checked.prog.funcNamed "lease/leasekeep.Tight"=some f) (hfn:Tryz.pinned.checked.prog.funcs[f]?=some fn) :
  false=Tryz.pinned.checked.prog.looks []/\∀ (j:Nat) t,fn.params[j]?=some t->Tryz.pinned.checked.prog.wantsStandIn t=false:=by
 obtain rfl:f=4:=Option.some.inj ((show Tryz.prog.funcNamed "lease/leasekeep.Tight"=some 4 by kernel_rfl).symm.trans hf) |>.symm
 obtain rfl:fn=Tryz.f4:=(Option.some.inj (Tryz.func4.symm.trans hfn)).symm
 refine ⟨by kernel_rfl,fun j t ht=>?_⟩
 rw [Tryz.params4] at ht
 have hm:t=3\/t=22:=by
  have:=Array.mem_of_getElem? ht
  simp at this
  rcases this with h | h
  ·exact Or.inl h
  ·exact Or.inr h
 rcases hm with rfl | rfl
 ·exact (show Tryz.prog.wantsStandIn 3=false by kernel_rfl)
 ·exact (show Tryz.prog.wantsStandIn 22=false by kernel_rfl)
theorem tight_card:Rows.TightCardSaid :=
 Claim7.holds_tied_plain_at .later [] _ _ _ _ GL (fun _ h=>by cases h) (by kernel_rfl) (fun _ h=>by cases h) tight_row_tie rfl ⟨rfl,rfl⟩ (by kernel_rfl) rfl ED (by kernel_rfl)
end Go.Proofs.YtpicaknklgccoabGreatDoor
