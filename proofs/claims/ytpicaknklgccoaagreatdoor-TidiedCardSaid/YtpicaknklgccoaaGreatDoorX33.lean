import Derived.Test.YtpicaknklgccoaaGreatDoorX32
import Derived.Test.YtpicaknklgccoaaGreatDoorCards
import Derived.Test.YtpicaknklgccoaaGreatDoorTie
import Derived.ProofKit
import Derived.LaidMore
import Derived.Lib.LaidTab
import Derived.Stop.LaidErr
import Derived.OpenShut
import Derived.Deep.DeepHandedRow
import Derived.ChangeSlices
import Derived.Carry
namespace Go.Proofs.YtpicaknklgccoaaGreatDoor
open Go.ChangeShapes Go.WideShapes Go.ChangeAt Go.RowKit
open Go.ChangeMaps (open_string shut_string)
theorem Tryz.gPow : Tryz.prog.globalNamed "internal/strconv.uint64pow10" = some 0 := by kernel_rfl
theorem Tryz.gPowType : (Tryz.prog.globals[0]?).map (·.type) = some 251 := by kernel_rfl
theorem Tryz.gPowUnd : Tryz.prog.underlying 251 = some (.array 20 233) := by kernel_rfl
theorem Tryz.gPowElem : Tryz.prog.underlying 233 = some (.int .u64) := by kernel_rfl
theorem pow_laid {W : World} (hL : laidMet Tryz.prog Rows.tidiedRow.laid W) : Lib.TabIs Tryz.prog W "internal/strconv.uint64pow10" .u64 Lib.pow10Tab :=
 Lib.tabIs_of_head (rest := []) Tryz.gPow Tryz.gPowType Tryz.gPowUnd Tryz.gPowElem (by kernel_rfl) (by kernel_rfl) (show laidMet Tryz.prog [("internal/strconv.uint64pow10", Lib.tabData .u64 Lib.pow10Tab)] W from laidMet.tail (laidMet.tail hL))
theorem tidied_own : ownKnob Tryz.prog.godebug = none := by kernel_rfl
theorem Tryz.laidOutK : laidOutB Tryz.prog = true := by kernel_rfl
theorem Tryz.cellsInt : Tryz.prog.cellsOf 3 = 1 := by kernel_rfl
theorem wf_I64 {n : Int} (h : (Lit.int .i64 n).wf = true) : I64 n := by
 have e1 : IntKind.i64.min = -9223372036854775808 := rfl
 have e2 : IntKind.i64.max = 9223372036854775807 := rfl
 simp only [Lit.wf, e1, e2, Bool.and_eq_true, decide_eq_true_eq] at h
 exact h
set_option maxRecDepth 100000 in
theorem raw_of {H : Type} {enc : TypeId × Value → H} {W : World} {v : Value} {d : DataW H} {p : List MemPlace} {r : Reach} {b0 : Nat} (hval : Value.okWide Tryz.prog W r b0 42 v) (h : DataW.Trod enc Tryz.prog W 0 (fun _ => true) true 42 v d p) : ∃ raw, RawIn W v raw := by
 obtain ⟨a0, len, cap, rfl⟩ := okWide_slice Tryz.underlying42 hval
 obtain ⟨fuel, hf⟩ := h
 rcases open_ints Tryz.underlying42 Tryz.underlying3 Tryz.cellsInt hf with ⟨hcs, _⟩ | ⟨a, len', cap', zs, hcs, _, hl, hm, hz, _, hcell, hwz⟩
 ·simp [Value.cells] at hcs
  obtain ⟨rfl, rfl, rfl⟩ := hcs
  exact ⟨[], by simp, Or.inl ⟨rfl, rfl⟩⟩
 ·simp [Value.cells] at hcs
  obtain ⟨rfl, rfl, rfl⟩ := hcs
  simp only [if_true] at hz
  have htl : (zs.take len).length = len := by rw [List.length_take]; omega
  refine ⟨zs.take len, fun c hc => wf_I64 (hwz c (List.mem_of_mem_take hc)), Or.inr ⟨a, cap, by rw [htl], by omega, fun i c hi => ?_⟩⟩
  have hil := (List.getElem?_eq_some_iff.1 hi).1
  rw [htl] at hil
  rw [hcell i (by omega), List.getD_eq_getElem?_getD]
  rw [List.getElem?_take_of_lt hil] at hi
  rw [hi]; rfl
set_option maxRecDepth 100000 in
theorem tidied_contract (H : Type) (enc : TypeId × Value → H) (W : World) (base : Nat) (args : Array Value) (ds gs : List (DataW H)) (before : List MemPlace) (hL : laidMet Tryz.prog Rows.tidiedRow.laid W)
  (hval : ∀ (j : Nat) t v, Tryz.f8.params[j]? = some t → args[j]? = some v → Value.okWide Tryz.prog W .any base t v)
  (hW : DataW.Whole enc Tryz.prog Tryz.f8.params.toList Rows.tidiedSpec.vars false W args.toList ds gs before) :
  Calls Tryz.prog 8 args W fun e W' => ∃ v, e = .returned v ∧ Rows.tidiedSpec.post enc Tryz.prog Tryz.f8 false true false false W args v W' := by
 have hW' := hW
 obtain ⟨p, q, hA0, hV, rfl, hfz, hnd⟩ := hW
 have hA : DataW.TrodAll enc Tryz.prog W 0 (fun _ => true) true Tryz.f8.params.toList args.toList ds p := hA0
 rw [Tryz.params8] at hA hval
 obtain ⟨v0, vs0, d0, ds0, p0, q0, hargs, rfl, rfl, h0, r0⟩ := trodAll_cons hA
 obtain ⟨v1, vs1, d1, ds1, p1, q1, hargs1, rfl, rfl, h1, r1⟩ := trodAll_cons r0
 obtain ⟨v2, vs2, d2, ds2, p2, q2, hargs2, rfl, rfl, h2, r2⟩ := trodAll_cons r1
 obtain ⟨rfl, rfl, rfl⟩ := trodAll_nil r2
 obtain rfl : args = #[v0, v1, v2] := by cases args; simp_all
 obtain ⟨rfl, rfl⟩ := trodVars_none hV
 obtain ⟨n, rfl, rfl, rfl, hn⟩ := open_int Tryz.underlying3 (hval 0 3 v0 rfl rfl) h0
 obtain ⟨raw, hraw⟩ := raw_of (hval 1 42 v1 rfl rfl) h1
 obtain ⟨gaps, hgaps⟩ := raw_of (hval 2 42 v2 rfl rfl) h2
 clear hA0
 simp only [List.append_nil, List.nil_append] at hW'
 have hlt : ∀ x ∈ p1, x.block < W.heap.size := fun x hx => by simpa using hW'.lt x (List.mem_append_left _ hx)
 have hlt2 : ∀ x ∈ p2, x.block < W.heap.size := fun x hx => by simpa using hW'.lt x (List.mem_append_right _ hx)
 refine (Tidied_any n v1 v2 raw gaps W (wf_I64 hn) hraw hgaps (pow_laid hL)).mono fun e W' ⟨he, hB⟩ => ?_
 subst he
 have hargs' : DataW.Trod enc Tryz.prog W' 0 (fun b => decide (b < W.heap.size)) true 42 v1 d1 p1 := Below.trod Tryz.laidOutK (by kernel_rfl) (of_decide_eq_true (by kernel_rfl)) h1 hB hlt
 have hargs2' : DataW.Trod enc Tryz.prog W' 0 (fun b => decide (b < W.heap.size)) true 42 v2 d2 p2 := Below.trod Tryz.laidOutK (by kernel_rfl) (of_decide_eq_true (by kernel_rfl)) h2 hB hlt2
 have e1 : Rows.tidiedSpec.fn H ([.lit (.int .i64 n), d1, d2] ++ []) = { results := [.lit (.bool true)], args := [.lit (.int .i64 n), d1, d2] } := rfl
 have t3 := trodAll_mk3 (shut_int (enc := enc) (w := W') (base := 0) (spare := fun b => decide (b < W.heap.size)) (held := true) Tryz.underlying3 hn) hargs' hargs2'
 simp only [List.nil_append] at t3
 refine ⟨_, rfl, _, _, _, [], p1 ++ p2, [], hW', ?_, ?_, ?_, hB.frame _, fun h => by cases h⟩
 ·rw [e1]; exact trodAll_mk1 (shut_bool Tryz.underlying4 true)
 ·rw [e1]; exact t3
 ·rw [e1]; rfl
noncomputable def tidiedWorld (os : Os) : World := World.doorLaid Tryz.prog 400 os
theorem tidied_met (os : Os) : laidMet Tryz.prog Rows.tidiedRow.laid ((tidiedWorld os).forCall (fun _ _ => 0) ⟨#[], #[.int .i64 0, .slice none 0 0, .slice none 0 0], []⟩).memory :=
 laidMet_of_run' 8 (by kernel_rfl) (by kernel_rfl)
theorem tidied_reads (os : Os) {H : Type} (enc : TypeId × Value → H) : ∃ places, DataW.whole enc Tryz.prog ((tidiedWorld os).forCall (fun _ _ => 0) ⟨#[], #[.int .i64 0, .slice none 0 0, .slice none 0 0], []⟩).memory Tryz.f8.params.toList Rows.tidiedSpec.vars false #[Value.int .i64 0, .slice none 0 0, .slice none 0 0].toList 8 = some ([.lit (.int .i64 0), .nil, .nil], [], places) :=
 ⟨[], by kernel_rfl⟩
set_option maxRecDepth 100000 in
theorem tidied_lifted (os : Os) (started : os.Started) (H : Type) (enc : TypeId × Value → H) (F : Stop.Interp) :
  ReturnsInHanded {} Tryz.checked os 8 .any ((OpenSpec.ofChange Rows.tidiedSpec).preRow enc Tryz.prog Tryz.f8 Rows.tidiedRow.domain false Rows.tidiedRow.laid) (((OpenSpec.ofChange Rows.tidiedSpec).at F).post enc Tryz.prog Tryz.f8 false true false false) := by
 obtain ⟨places, hx⟩ := tidied_reads os enc
 refine returnsInHanded_of_row (C := Tryz.checked) (s := OpenSpec.ofChange Rows.tidiedSpec) tidied_own started (by kernel_rfl) Tryz.func8
  (witness_row_at (enc := enc) (C := Tryz.checked) false (tidiedWorld os) #[.int .i64 0, .slice none 0 0, .slice none 0 0] rfl (by kernel_rfl) (by kernel_rfl) (by kernel_rfl)
   (OpenSpec.preRow_of_cond 8 hx (by kernel_rfl) (fun k hk => by cases hk) (by kernel_rfl) (tidied_met os))) ?_
 intro W base args ds gs before hval hW _ _ _ hL _ _
 exact tidied_contract H enc W base args ds gs before hL hval hW
theorem tidied_said : Rows.TidiedSaid :=
 OpenClaim.holds_of_cond 8 Tryz.f8 rfl rfl rfl rfl rfl rfl rfl ⟨rfl, rfl, rfl, rfl, rfl⟩ rfl rfl rfl rfl rfl (by kernel_rfl) Tryz.func8 (by kernel_rfl)
  (of_decide_eq_true (by kernel_rfl)) (by unfold Func.isWrapper; first | (rw [if_pos (by decide +kernel)]; kernel_rfl) | (rw [if_neg (by decide +kernel)]; exact ⟨rfl, rfl⟩))
  (fun os started H enc _ F => by rw [OpenClaim.pre_eq_preRow]; exact tidied_lifted os started H enc F)
theorem tidied_plain (f : FuncId) (fn : Func) (hf : Tryz.pinned.checked.prog.funcNamed "lease/leasekeep.Tidied" = some f) (hfn : Tryz.pinned.checked.prog.funcs[f]? = some fn) :
  false = Tryz.pinned.checked.prog.looks [] ∧ ∀ (j : Nat) t, fn.params[j]? = some t → Tryz.pinned.checked.prog.wantsStandIn t = false := by
 obtain rfl : f = 8 := Option.some.inj ((show Tryz.prog.funcNamed "lease/leasekeep.Tidied" = some 8 by kernel_rfl).symm.trans hf) |>.symm
 obtain rfl : fn = Tryz.f8 := (Option.some.inj (Tryz.func8.symm.trans hfn)).symm
 refine ⟨by kernel_rfl, fun j t ht => ?_⟩
 rw [Tryz.params8] at ht
 have hm : t = 3 ∨ t = 42 := by
  have := Array.mem_of_getElem? ht
  simp at this
  rcases this with h | h
  ·exact Or.inl h
  ·exact Or.inr h
 rcases hm with rfl | rfl
 ·exact (show Tryz.prog.wantsStandIn 3 = false by kernel_rfl)
 ·exact (show Tryz.prog.wantsStandIn 42 = false by kernel_rfl)
theorem tidied_card : Rows.TidiedCardSaid :=
 Claim7.holds_tied_plain_at .later [] _ _ _ _ tidied_said (fun _ h => by cases h) (by kernel_rfl) (fun _ h => by cases h) tidied_row_tie rfl ⟨rfl, rfl⟩ (by kernel_rfl) rfl tidied_plain (by kernel_rfl)
end Go.Proofs.YtpicaknklgccoaaGreatDoor
