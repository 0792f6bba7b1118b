import Derived.Test.YtpicaknklgccoaaGreatDoorX34
import Derived.Test.YtpicaknklgccoaaGreatDoorCards
import Derived.Test.YtpicaknklgccoaaGreatDoorTie
import Derived.ProofKit
import Derived.LaidMore
import Derived.Lib.LaidTab
import Derived.Stop.LaidErr
import Derived.OpenShut
import Derived.Deep.DeepHandedRow
import Derived.ChangeSlices
import Derived.Carry
namespace Go.Proofs.YtpicaknklgccoaaGreatDoor
open Go.ChangeShapes Go.WideShapes Go.ChangeAt Go.RowKit
open Go.ChangeMaps (open_string shut_string)
theorem Tryz.gPow : Tryz.prog.globalNamed "internal/strconv.uint64pow10" = some 0 := by kernel_rfl
theorem Tryz.gPowType : (Tryz.prog.globals[0]?).map (·.type) = some 251 := by kernel_rfl
theorem Tryz.gPowUnd : Tryz.prog.underlying 251 = some (.array 20 233) := by kernel_rfl
theorem Tryz.gPowElem : Tryz.prog.underlying 233 = some (.int .u64) := by kernel_rfl
theorem pow_laid {W : World} (hL : laidMet Tryz.prog Rows.endedRow.laid W) : Lib.TabIs Tryz.prog W "internal/strconv.uint64pow10" .u64 Lib.pow10Tab :=
 Lib.tabIs_of_head (rest := []) Tryz.gPow Tryz.gPowType Tryz.gPowUnd Tryz.gPowElem (by kernel_rfl) (by kernel_rfl) (show laidMet Tryz.prog [("internal/strconv.uint64pow10", Lib.tabData .u64 Lib.pow10Tab)] W from laidMet.tail (laidMet.tail hL))
theorem ended_own : ownKnob Tryz.prog.godebug = none := by kernel_rfl
theorem Tryz.laidOutK : laidOutB Tryz.prog = true := by kernel_rfl
theorem Tryz.cellsInt : Tryz.prog.cellsOf 3 = 1 := by kernel_rfl
theorem wf_I64 {n : Int} (h : (Lit.int .i64 n).wf = true) : I64 n := by
 have e1 : IntKind.i64.min = -9223372036854775808 := rfl
 have e2 : IntKind.i64.max = 9223372036854775807 := rfl
 simp only [Lit.wf, e1, e2, Bool.and_eq_true, decide_eq_true_eq] at h
 exact h
set_option maxRecDepth 100000 in
theorem raw_of {H : Type} {enc : TypeId × Value → H} {W : World} {v : Value} {d : DataW H} {p : List MemPlace} {r : Reach} {b0 : Nat} (hval : Value.okWide Tryz.prog W r b0 42 v) (h : DataW.Trod enc Tryz.prog W 0 (fun _ => true) true 42 v d p) : ∃ raw, RawIn W v raw := by
 obtain ⟨a0, len, cap, rfl⟩ := okWide_slice Tryz.underlying42 hval
 obtain ⟨fuel, hf⟩ := h
 rcases open_ints Tryz.underlying42 Tryz.underlying3 Tryz.cellsInt hf with ⟨hcs, _⟩ | ⟨a, len', cap', zs, hcs, _, hl, hm, hz, _, hcell, hwz⟩
 ·simp [Value.cells] at hcs
  obtain ⟨rfl, rfl, rfl⟩ := hcs
  exact ⟨[], by simp, Or.inl ⟨rfl, rfl⟩⟩
 ·simp [Value.cells] at hcs
  obtain ⟨rfl, rfl, rfl⟩ := hcs
  simp only [if_true] at hz
  have htl : (zs.take len).length = len := by rw [List.length_take]; omega
  refine ⟨zs.take len, fun c hc => wf_I64 (hwz c (List.mem_of_mem_take hc)), Or.inr ⟨a, cap, by rw [htl], by omega, fun i c hi => ?_⟩⟩
  have hil := (List.getElem?_eq_some_iff.1 hi).1
  rw [htl] at hil
  rw [hcell i (by omega), List.getD_eq_getElem?_getD]
  rw [List.getElem?_take_of_lt hil] at hi
  rw [hi]; rfl
set_option maxRecDepth 100000 in
theorem ended_contract (H : Type) (enc : TypeId × Value → H) (W : World) (base : Nat) (args : Array Value) (ds gs : List (DataW H)) (before : List MemPlace) (hL : laidMet Tryz.prog Rows.endedRow.laid W)
  (hval : ∀ (j : Nat) t v, Tryz.f10.params[j]? = some t → args[j]? = some v → Value.okWide Tryz.prog W .any base t v)
  (hW : DataW.Whole enc Tryz.prog Tryz.f10.params.toList Rows.endedSpec.vars false W args.toList ds gs before) :
  Calls Tryz.prog 10 args W fun e W' => ∃ v, e = .returned v ∧ Rows.endedSpec.post enc Tryz.prog Tryz.f10 false true false false W args v W' := by
 have hW' := hW
 obtain ⟨p, q, hA0, hV, rfl, hfz, hnd⟩ := hW
 have hA : DataW.TrodAll enc Tryz.prog W 0 (fun _ => true) true Tryz.f10.params.toList args.toList ds p := hA0
 rw [Tryz.params10] at hA hval
 obtain ⟨v0, vs0, d0, ds0, p0, q0, hargs, rfl, rfl, h0, r0⟩ := trodAll_cons hA
 obtain ⟨rfl, rfl, rfl⟩ := trodAll_nil r0
 obtain rfl : args = #[v0] := by cases args; simp_all
 obtain ⟨rfl, rfl⟩ := trodVars_none hV
 obtain ⟨raw, hraw⟩ := raw_of (hval 0 42 v0 rfl rfl) h0
 clear hA0
 simp only [List.append_nil] at hW'
 have hlt : ∀ x ∈ p0, x.block < W.heap.size := fun x hx => by simpa using hW'.lt x hx
 refine (Ended_any v0 raw W hraw (pow_laid hL)).mono fun e W' ⟨he, hB⟩ => ?_
 subst he
 have hargs' : DataW.Trod enc Tryz.prog W' 0 (fun b => decide (b < W.heap.size)) true 42 v0 d0 p0 := Below.trod Tryz.laidOutK (by kernel_rfl) (of_decide_eq_true (by kernel_rfl)) h0 hB hlt
 have e1 : Rows.endedSpec.fn H ([d0] ++ []) = { results := [.lit (.bool true)], args := [d0] } := rfl
 have t3 := trodAll_mk1 hargs'
 refine ⟨_, rfl, _, _, _, [], p0, [], hW', ?_, ?_, ?_, hB.frame _, fun h => by cases h⟩
 ·rw [e1]; exact trodAll_mk1 (shut_bool Tryz.underlying4 true)
 ·rw [e1]; exact t3
 ·rw [e1]; rfl
noncomputable def endedWorld (os : Os) : World := World.doorLaid Tryz.prog 400 os
theorem ended_met (os : Os) : laidMet Tryz.prog Rows.endedRow.laid ((endedWorld os).forCall (fun _ _ => 0) ⟨#[], #[.slice none 0 0], []⟩).memory :=
 laidMet_of_run' 8 (by kernel_rfl) (by kernel_rfl)
theorem ended_reads (os : Os) {H : Type} (enc : TypeId × Value → H) : ∃ places, DataW.whole enc Tryz.prog ((endedWorld os).forCall (fun _ _ => 0) ⟨#[], #[.slice none 0 0], []⟩).memory Tryz.f10.params.toList Rows.endedSpec.vars false #[Value.slice none 0 0].toList 8 = some ([.nil], [], places) :=
 ⟨[], by kernel_rfl⟩
set_option maxRecDepth 100000 in
theorem ended_lifted (os : Os) (started : os.Started) (H : Type) (enc : TypeId × Value → H) (F : Stop.Interp) :
  ReturnsInHanded {} Tryz.checked os 10 .any ((OpenSpec.ofChange Rows.endedSpec).preRow enc Tryz.prog Tryz.f10 Rows.endedRow.domain false Rows.endedRow.laid) (((OpenSpec.ofChange Rows.endedSpec).at F).post enc Tryz.prog Tryz.f10 false true false false) := by
 obtain ⟨places, hx⟩ := ended_reads os enc
 refine returnsInHanded_of_row (C := Tryz.checked) (s := OpenSpec.ofChange Rows.endedSpec) ended_own started (by kernel_rfl) Tryz.func10
  (witness_row_at (enc := enc) (C := Tryz.checked) false (endedWorld os) #[.slice none 0 0] rfl (by kernel_rfl) (by kernel_rfl) (by kernel_rfl)
   (OpenSpec.preRow_of_cond 8 hx (by kernel_rfl) (fun k hk => by cases hk) (by kernel_rfl) (ended_met os))) ?_
 intro W base args ds gs before hval hW _ _ _ hL _ _
 exact ended_contract H enc W base args ds gs before hL hval hW
theorem ended_said : Rows.EndedSaid :=
 OpenClaim.holds_of_cond 10 Tryz.f10 rfl rfl rfl rfl rfl rfl rfl ⟨rfl, rfl, rfl, rfl, rfl⟩ rfl rfl rfl rfl rfl (by kernel_rfl) Tryz.func10 (by kernel_rfl)
  (of_decide_eq_true (by kernel_rfl)) (by unfold Func.isWrapper; first | (rw [if_pos (by decide +kernel)]; kernel_rfl) | (rw [if_neg (by decide +kernel)]; exact ⟨rfl, rfl⟩))
  (fun os started H enc _ F => by rw [OpenClaim.pre_eq_preRow]; exact ended_lifted os started H enc F)
theorem ended_plain (f : FuncId) (fn : Func) (hf : Tryz.pinned.checked.prog.funcNamed "lease/leasekeep.Ended" = some f) (hfn : Tryz.pinned.checked.prog.funcs[f]? = some fn) :
  false = Tryz.pinned.checked.prog.looks [] ∧ ∀ (j : Nat) t, fn.params[j]? = some t → Tryz.pinned.checked.prog.wantsStandIn t = false := by
 obtain rfl : f = 10 := Option.some.inj ((show Tryz.prog.funcNamed "lease/leasekeep.Ended" = some 10 by kernel_rfl).symm.trans hf) |>.symm
 obtain rfl : fn = Tryz.f10 := (Option.some.inj (Tryz.func10.symm.trans hfn)).symm
 refine ⟨by kernel_rfl, fun j t ht => ?_⟩
 rw [Tryz.params10] at ht
 have hm : t = 42 := by
  have := Array.mem_of_getElem? ht
  simpa using this
 subst hm
 exact (show Tryz.prog.wantsStandIn 42 = false by kernel_rfl)
theorem ended_card : Rows.EndedCardSaid :=
 Claim7.holds_tied_plain_at .later [] _ _ _ _ ended_said (fun _ h => by cases h) (by kernel_rfl) (fun _ h => by cases h) ended_row_tie rfl ⟨rfl, rfl⟩ (by kernel_rfl) rfl ended_plain (by kernel_rfl)
end Go.Proofs.YtpicaknklgccoaaGreatDoor
