import Derived.Test.YtpicaknklgccoaaGreatDoorS37
import Derived.Test.YtpicaknklgccoaaGreatDoorCards
import Derived.Test.YtpicaknklgccoaaGreatDoorTie
import Derived.ProofKit
import Derived.LaidMore
import Derived.Lib.LaidTab
import Derived.Stop.LaidErr
import Derived.OpenShut
import Derived.Deep.DeepHandedRow
import Derived.ChangeSlices
import Derived.Carry
set_option maxRecDepth 100000
namespace Go.Proofs.YtpicaknklgccoaaGreatDoor
open Go.ChangeShapes Go.WideShapes Go.ChangeAt Go.RowKit
open Go.ChangeMaps (open_string shut_string)
theorem Tryz.aan : Tryz.prog.globalNamed "internal/strconv.uint64pow10" = some 0 := by kernel_rfl
theorem Tryz.MD : (Tryz.prog.globals[0]?).map (·.type) = some 251 := by kernel_rfl
theorem Tryz.PL : Tryz.prog.underlying 251 = some (.array 20 233) := by kernel_rfl
theorem Tryz.ME : Tryz.prog.underlying 233 = some (.int .u64) := by kernel_rfl
theorem MF {W : World} (hL : laidMet Tryz.prog Rows.sameRow.laid W) : Lib.TabIs Tryz.prog W "internal/strconv.uint64pow10" .u64 Lib.pow10Tab :=
 Lib.tabIs_of_head (rest := []) Tryz.aan Tryz.MD Tryz.PL Tryz.ME (by kernel_rfl) (by kernel_rfl) (show laidMet Tryz.prog [("internal/strconv.uint64pow10", Lib.tabData .u64 Lib.pow10Tab)] W from laidMet.tail (laidMet.tail hL))
theorem MG : ownKnob Tryz.prog.godebug = none := by kernel_rfl
theorem Tryz.MH : laidOutB Tryz.prog = true := by kernel_rfl
theorem Tryz.MJ : Tryz.prog.cellsOf 3 = 1 := by kernel_rfl
theorem Fh {n : Int} (h : (Lit.int .i64 n).wf = true) : SF n := by
 have e1 : IntKind.i64.min = -9223372036854775808 := rfl
 have e2 : IntKind.i64.max = 9223372036854775807 := rfl
 simp only [Lit.wf, e1, e2, Bool.and_eq_true, decide_eq_true_eq] at h
 exact h
theorem Tm {H : Type} {enc : TypeId × Value -> H} {W : World} {v : Value} {d : DataW H} {p : List MemPlace} {r : Reach} {b0 : Nat} (hval : Value.okWide Tryz.prog W r b0 42 v) (h : DataW.Trod enc Tryz.prog W 0 (fun _ => true) true 42 v d p) : ∃ raw, Gd W v raw := by
 obtain ⟨a0, len, cap, rfl⟩ := okWide_slice Tryz.underlying42 hval
 obtain ⟨fuel, hf⟩ := h
 rcases open_ints Tryz.underlying42 Tryz.underlying3 Tryz.MJ hf with ⟨hcs, _⟩ | ⟨a, len', cap', zs, hcs, _, hl, hm, hz, _, hcell, hwz⟩
 ·simp [Value.cells] at hcs
  obtain ⟨rfl, rfl, rfl⟩ := hcs
  exact ⟨[], by simp, Or.inl ⟨rfl, rfl⟩⟩
 ·simp [Value.cells] at hcs
  obtain ⟨rfl, rfl, rfl⟩ := hcs
  simp only [if_true] at hz
  have htl : (zs.take len).length = len := by rw [List.length_take]; omega
  refine ⟨zs.take len, fun c hc => Fh (hwz c (List.mem_of_mem_take hc)), Or.inr ⟨a, cap, by rw [htl], by omega, fun i c hi => ?_⟩⟩
  have lP := (List.getElem?_eq_some_iff.1 hi).1
  rw [htl] at lP
  rw [hcell i (by omega), List.getD_eq_getElem?_getD]
  rw [List.getElem?_take_of_lt lP] at hi
  rw [hi]; rfl
theorem yq (H : Type) (enc : TypeId × Value -> H) (W : World) (base : Nat) (args : Array Value) (ds gs : List (DataW H)) (before : List MemPlace) (hL : laidMet Tryz.prog Rows.sameRow.laid W)
  (hval : ∀ (j : Nat) t v, Tryz.f9.params[j]? = some t -> args[j]? = some v -> Value.okWide Tryz.prog W .any base t v)
  (hW : DataW.Whole enc Tryz.prog Tryz.f9.params.toList Rows.sameSpec.vars false W args.toList ds gs before) :
  Calls Tryz.prog 9 args W fun e W' => ∃ v, e = .returned v /\ Rows.sameSpec.post enc Tryz.prog Tryz.f9 false true false false W args v W' := by
 have hW' := hW
 obtain ⟨p, q, hA0, hV, rfl, hfz, hnd⟩ := hW
 have hA : DataW.TrodAll enc Tryz.prog W 0 (fun _ => true) true Tryz.f9.params.toList args.toList ds p := hA0
 rw [Tryz.params9] at hA hval
 obtain ⟨v0, vs0, d0, ds0, p0, q0, hargs, rfl, rfl, h0, r0⟩ := trodAll_cons hA
 obtain ⟨v1, vs1, d1, ds1, p1, q1, aao, rfl, rfl, h1, r1⟩ := trodAll_cons r0
 obtain ⟨v2, vs2, d2, ds2, p2, q2, aap, rfl, rfl, h2, r2⟩ := trodAll_cons r1
 obtain ⟨rfl, rfl, rfl⟩ := trodAll_nil r2
 obtain rfl : args = #[v0, v1, v2] := by cases args; simp_all
 obtain ⟨rfl, rfl⟩ := trodVars_none hV
 obtain ⟨n, rfl, rfl, rfl, hn⟩ := open_int Tryz.underlying3 (hval 0 3 v0 rfl rfl) h0
 obtain ⟨m, rfl, rfl, rfl, hm⟩ := open_int Tryz.underlying3 (hval 2 3 v2 rfl rfl) h2
 obtain ⟨raw, aaq⟩ := Tm (hval 1 42 v1 rfl rfl) h1
 clear hA0
 simp only [List.append_nil, List.nil_append] at hW'
 have hlt : ∀ x ∈ p1, x.block < W.heap.size := fun x hx => by simpa using hW'.lt x hx
 refine (MB n m v1 raw W (Fh hn) (Fh hm) aaq (MF hL)).mono fun e W' ⟨he, hB⟩ => ?_
 subst he
 have Tn : DataW.Trod enc Tryz.prog W' 0 (fun b => decide (b < W.heap.size)) true 42 v1 d1 p1 := Below.trod Tryz.MH (by kernel_rfl) (of_decide_eq_true (by kernel_rfl)) h1 hB hlt
 have e1 : Rows.sameSpec.fn H ([.lit (.int .i64 n), d1, .lit (.int .i64 m)] ++ []) = { results := [.lit (.bool true)], args := [.lit (.int .i64 n), d1, .lit (.int .i64 m)] } := rfl
 have t3 := trodAll_mk3 (shut_int (enc := enc) (w := W') (base := 0) (spare := fun b => decide (b < W.heap.size)) (held := true) Tryz.underlying3 hn) Tn (shut_int (enc := enc) (w := W') (base := 0) (spare := fun b => decide (b < W.heap.size)) (held := true) Tryz.underlying3 hm)
 simp only [List.append_nil, List.nil_append] at t3
 refine ⟨_, rfl, _, _, _, [], p1, [], hW', ?_, ?_, ?_, hB.frame _, fun h => by cases h⟩
 ·rw [e1]; exact trodAll_mk1 (shut_bool Tryz.underlying4 true)
 ·rw [e1]; exact t3
 ·rw [e1]; rfl
noncomputable def tC (os : Os) : World := World.doorLaid Tryz.prog 400 os
theorem MK (os : Os) : laidMet Tryz.prog Rows.sameRow.laid ((tC os).forCall (fun _ _ => 0) ⟨#[], #[.int .i64 0, .slice none 0 0, .int .i64 0], []⟩).memory :=
 laidMet_of_run' 8 (by kernel_rfl) (by kernel_rfl)
theorem Fj (os : Os) {H : Type} (enc : TypeId × Value -> H) : ∃ places, DataW.whole enc Tryz.prog ((tC os).forCall (fun _ _ => 0) ⟨#[], #[.int .i64 0, .slice none 0 0, .int .i64 0], []⟩).memory Tryz.f9.params.toList Rows.sameSpec.vars false #[Value.int .i64 0, .slice none 0 0, .int .i64 0].toList 8 = some ([.lit (.int .i64 0), .nil, .lit (.int .i64 0)], [], places) :=
 ⟨[], by kernel_rfl⟩
theorem Dh (os : Os) (started : os.Started) (H : Type) (enc : TypeId × Value -> H) (F : Stop.Interp) :
  ReturnsInHanded {} Tryz.checked os 9 .any ((OpenSpec.ofChange Rows.sameSpec).preRow enc Tryz.prog Tryz.f9 Rows.sameRow.domain false Rows.sameRow.laid) (((OpenSpec.ofChange Rows.sameSpec).at F).post enc Tryz.prog Tryz.f9 false true false false) := by
 obtain ⟨places, hx⟩ := Fj os enc
 refine returnsInHanded_of_row (C := Tryz.checked) (s := OpenSpec.ofChange Rows.sameSpec) MG started (by kernel_rfl) Tryz.func9
  (witness_row_at (enc := enc) (C := Tryz.checked) false (tC os) #[.int .i64 0, .slice none 0 0, .int .i64 0] rfl (by kernel_rfl) (by kernel_rfl) (by kernel_rfl)
   (OpenSpec.preRow_of_cond 8 hx (by kernel_rfl) (fun k hk => by cases hk) (by kernel_rfl) (MK os))) ?_
 intro W base args ds gs before hval hW _ _ _ hL _ _
 exact yq H enc W base args ds gs before hL hval hW
theorem Jk : Rows.SameSaid :=
 OpenClaim.holds_of_cond 9 Tryz.f9 rfl rfl rfl rfl rfl rfl rfl ⟨rfl, rfl, rfl, rfl, rfl⟩ rfl rfl rfl rfl rfl (by kernel_rfl) Tryz.func9 (by kernel_rfl)
  (of_decide_eq_true (by kernel_rfl)) (by unfold Func.isWrapper; first | (rw [if_pos (by decide +kernel)]; kernel_rfl) | (rw [if_neg (by decide +kernel)]; exact ⟨rfl, rfl⟩))
  (fun os started H enc _ F => by rw [OpenClaim.pre_eq_preRow]; exact Dh os started H enc F)
theorem Fk (f : FuncId) (fn : Func) (hf : Tryz.pinned.checked.prog.funcNamed "lease/leasekeep.Same" = some f) (hfn : Tryz.pinned.checked.prog.funcs[f]? = some fn) :
  false = Tryz.pinned.checked.prog.looks [] /\ ∀ (j : Nat) t, fn.params[j]? = some t -> Tryz.pinned.checked.prog.wantsStandIn t = false := by
 obtain rfl : f = 9 := Option.some.inj ((show Tryz.prog.funcNamed "lease/leasekeep.Same" = some 9 by kernel_rfl).symm.trans hf) |>.symm
 obtain rfl : fn = Tryz.f9 := (Option.some.inj (Tryz.func9.symm.trans hfn)).symm
 refine ⟨by kernel_rfl, fun j t ht => ?_⟩
 rw [Tryz.params9] at ht
 have hm : t = 3 \/ t = 42 := by
  have := Array.mem_of_getElem? ht
  simp at this
  rcases this with h | h | h
  ·exact Or.inl h
  ·exact Or.inr h
  ·exact Or.inl h
 rcases hm with rfl | rfl
 ·exact (show Tryz.prog.wantsStandIn 3 = false by kernel_rfl)
 ·exact (show Tryz.prog.wantsStandIn 42 = false by kernel_rfl)
theorem same_card : Rows.SameCardSaid :=
 Claim7.holds_tied_plain_at .later [] _ _ _ _ Jk (fun _ h => by cases h) (by kernel_rfl) (fun _ h => by cases h) same_row_tie rfl ⟨rfl, rfl⟩ (by kernel_rfl) rfl Fk (by kernel_rfl)
end Go.Proofs.YtpicaknklgccoaaGreatDoor
