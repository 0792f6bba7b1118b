import Derived.Test.YtpicaknklgccoaaGreatDoorX18
import Derived.Test.YtpicaknklgccoaaGreatDoorX35
namespace Go.Proofs.YtpicaknklgccoaaGreatDoor
open Go.RowKit
def rEnd (R : RV × RS) : List UInt8 × RS := if R.2.e = 0 then rTold R.1 R.2 else ([], R.2)
abbrev noRun : Value := .agg #[.string ⟨#[]⟩, .int .i64 0, .int .i64 0, .int .i64 0, .int .i64 0]
def runRV (x : List UInt8 × RS) : Value := if x.2.e ≠ 0 then noRun else .agg #[.string (bs x.1), .int .i64 x.2.steps, .int .i64 x.2.cells, .int .i64 (tideF (0, 0) x.2.tide).2, .int .i64 (tideF (0, 0) x.2.tide).1]
def rs0 : RS := ⟨0, 0, 0, [], [], [], []⟩
theorem used_or (st : RS) (v : RV) : st.used v = st ∨ st.used v = { st with e := 13 } := by
 unfold RS.used
 split
 ·exact Or.inl rfl
 ·split
  ·exact Or.inr rfl
  ·exact Or.inl rfl
theorem rTold_or : ∀ (v : RV) (st : RS), (rTold v st).2 = st ∨ (rTold v st).2 = { st with e := 13 }
 | .n _, st => Or.inl rfl
 | .p a b h, st => by
  unfold rTold
  split
  ·exact used_or st (.p a b h)
  ·rename_i he
   have hu : st.used (.p a b h) = st := by
    rcases used_or st (.p a b h) with hu | hu
    ·exact hu
    ·rw [hu] at he; simp at he
   rw [hu]
   simp only
   rcases rTold_or a st with h1 | h1
   ·rw [h1]; exact rTold_or b st
   ·rw [h1]
    rcases rTold_or b { st with e := 13 } with h2 | h2
    ·exact Or.inr h2
    ·exact Or.inr h2
theorem rEnd_same (R : RV × RS) : (rEnd R).2.steps = R.2.steps ∧ (rEnd R).2.cells = R.2.cells ∧ (rEnd R).2.tide = R.2.tide := by
 unfold rEnd
 split
 ·rcases rTold_or R.1 R.2 with h | h <;> rw [h] <;> exact ⟨rfl, rfl, rfl⟩
 ·exact ⟨rfl, rfl, rfl⟩
theorem tideF_bd : ∀ (l : List Int) (p : Int × Int), (∀ x ∈ l, -20000 ≤ x ∧ x ≤ 1) → p.1 - 20000 * l.length ≤ (tideF p l).1 ∧ (tideF p l).1 ≤ p.1 + l.length ∧ p.2 ≤ (tideF p l).2 ∧ ∀ M, p.2 ≤ M → p.1 + l.length ≤ M → (tideF p l).2 ≤ M
 | [], p, _ => ⟨by simp [tideF], by simp [tideF], by simp [tideF], fun M h _ => h⟩
 | x :: r, p, h => by
  have hx := h x (by simp)
  simp only [tideF, List.length_cons]
  obtain ⟨h1, h2, h3, h4⟩ := tideF_bd r (p.1 + x, if p.2 < p.1 + x then p.1 + x else p.2) (fun y hy => h y (by simp [hy]))
  simp only at h1 h2 h3 h4
  refine ⟨by omega, by omega, ?_, fun M a b => ?_⟩
  ·have h5 : p.2 ≤ (if p.2 < p.1 + x then p.1 + x else p.2) := by split <;> omega
   exact Int.le_trans h5 h3
  ·refine h4 M ?_ (by omega)
   split <;> omega
set_option maxRecDepth 100000 in
set_option maxHeartbeats 1000000 in
theorem refRun_bad (s : ByteArray) (fuel : Int) (w : World) (x : Nat) (hx : x ≠ 0) (hst : ∀ w1, Below w.heap.size w w1 → Calls Tryz.prog 33 #[.string s, .bool true] w1 fun v w' => ∃ p q y, v = .returned (.tuple #[.pointer p, .pointer q, .int .i64 x, .int .i64 y]) ∧ Below w1.heap.size w1 w') :
  Calls Tryz.prog 19 #[.string s, .int .i64 fuel] w fun v w' => v = .returned (.tuple #[noRun, .int .i64 x]) ∧ Below w.heap.size w w' := by
 have qx : ((x : Int) != 0) = true := by simp; omega
 have HR : Hid _ := hst
 clear hst
 go_enter Tryz.func19, Tryz.ntmps19
 go_wp2_with fail
 refine (HR.out _ ((Below.refl _ w).alloc (Nat.le_refl _) _)).mono ?_
 rintro _ w1 ⟨p, q, y, rfl, hb⟩
 have hq : w1.heap[w.heap.size]? = some (.cells #[.string ⟨#[]⟩, .int .i64 0, .int .i64 0, .int .i64 0, .int .i64 0] 23) := kept1 hb
 have HB : Hid _ := below1 hb
 clear hb HR
 go_wp2_with (refine st_row rfl 23 (.tmp 4) (.tmp 25) rfl w.heap.size #[.string ⟨#[]⟩, .int .i64 0, .int .i64 0, .int .i64 0, .int .i64 0] rfl rfl 23 _ hq Tryz.infoRes rfl (by simp [Value.oneCell']) ?_; intro W hW hWs hWo hW1 hW2 hW3)
 obtain ⟨s0, s1, s2, s3, s4⟩ := res_cells hW
 have HBN : Hid _ := below_new HB.out (Nat.le_refl _) hWs hWo hW1 hW2 hW3
 clear hW hWs hWo hW1 hW2 hW3 HB hq
 go_wp2
 refine bodyPost_ret (v := .tuple #[noRun, .int .i64 x]) (by simp [results, Tryz.results19, go_sem, s0, s1, s2, s3, s4]) rfl ⟨rfl, HBN.out⟩
set_option maxRecDepth 100000 in
set_option maxHeartbeats 1000000 in
theorem refRun_arg (s : ByteArray) (fuel : Int) (w : World) (hf : fuel < 0 ∨ 20000 < fuel) (hst : ∀ w1, Below w.heap.size w w1 → Calls Tryz.prog 33 #[.string s, .bool true] w1 fun v w' => ∃ p q y, v = .returned (.tuple #[.pointer p, .pointer q, .int .i64 0, .int .i64 y]) ∧ Below w1.heap.size w1 w') :
  Calls Tryz.prog 19 #[.string s, .int .i64 fuel] w fun v w' => v = .returned (.tuple #[noRun, .int .i64 11]) ∧ Below w.heap.size w w' := by
 have HR : Hid _ := hst
 clear hst
 obtain ⟨b0, hb0⟩ : ∃ b0, b0 = decide (fuel < 0) := ⟨_, rfl⟩
 by_cases hn : fuel < 0
 ·clear hf hb0
  go_enter Tryz.func19, Tryz.ntmps19
  go_wp2_with fail
  refine (HR.out _ ((Below.refl _ w).alloc (Nat.le_refl _) _)).mono ?_
  rintro _ w1 ⟨p, q, y, rfl, hb⟩
  have hq : w1.heap[w.heap.size]? = some (.cells #[.string ⟨#[]⟩, .int .i64 0, .int .i64 0, .int .i64 0, .int .i64 0] 23) := kept1 hb
  have HB : Hid _ := below1 hb
  clear hb HR
  go_wp2_with (refine st_row rfl 23 (.tmp 4) (.tmp 33) rfl w.heap.size #[.string ⟨#[]⟩, .int .i64 0, .int .i64 0, .int .i64 0, .int .i64 0] rfl rfl 23 _ hq Tryz.infoRes rfl (by simp [Value.oneCell']) ?_; intro W hW hWs hWo hW1 hW2 hW3)
  obtain ⟨s0, s1, s2, s3, s4⟩ := res_cells hW
  have HBN : Hid _ := below_new HB.out (Nat.le_refl _) hWs hWo hW1 hW2 hW3
  clear hW hWs hWo hW1 hW2 hW3 HB hq
  go_wp2
  refine bodyPost_ret (v := .tuple #[noRun, .int .i64 11]) (by simp [results, Tryz.results19, go_sem, s0, s1, s2, s3, s4]) rfl ⟨rfl, HBN.out⟩
 ·have hf2 : 20000 < fuel := by omega
  clear hf hb0
  go_enter Tryz.func19, Tryz.ntmps19
  go_wp2_with fail
  refine (HR.out _ ((Below.refl _ w).alloc (Nat.le_refl _) _)).mono ?_
  rintro _ w1 ⟨p, q, y, rfl, hb⟩
  have hq : w1.heap[w.heap.size]? = some (.cells #[.string ⟨#[]⟩, .int .i64 0, .int .i64 0, .int .i64 0, .int .i64 0] 23) := kept1 hb
  have HB : Hid _ := below1 hb
  clear hb HR
  go_wp2_with (refine st_row rfl 23 (.tmp 4) (.tmp 33) rfl w.heap.size #[.string ⟨#[]⟩, .int .i64 0, .int .i64 0, .int .i64 0, .int .i64 0] rfl rfl 23 _ hq Tryz.infoRes rfl (by simp [Value.oneCell']) ?_; intro W hW hWs hWo hW1 hW2 hW3)
  obtain ⟨s0, s1, s2, s3, s4⟩ := res_cells hW
  have HBN : Hid _ := below_new HB.out (Nat.le_refl _) hWs hWo hW1 hW2 hW3
  clear hW hWs hWo hW1 hW2 hW3 HB hq
  go_wp2
  refine bodyPost_ret (v := .tuple #[noRun, .int .i64 11]) (by simp [results, Tryz.results19, go_sem, s0, s1, s2, s3, s4]) rfl ⟨rfl, HBN.out⟩
set_option maxRecDepth 100000 in
set_option maxHeartbeats 4000000 in
theorem refRun_ok (s : ByteArray) (fuel : Nat) (w : World) (hfu : fuel ≤ 20000) (e : PT) (hst : ∀ w1, Below w.heap.size w w1 → Calls Tryz.prog 33 #[.string s, .bool true] w1 fun v w' => ∃ b q y, v = .returned (.tuple #[ptr b, .pointer q, .int .i64 0, .int .i64 y]) ∧ Below w1.heap.size w1 w' ∧ IsT w' (fun k => k < w'.heap.size) e 0 0 b)
  (hwk : ∀ w1 pb, PWork w1 pb fuel e []) (hit : ∀ w1, Below w.heap.size w w1 → ItoaOk w1) (hwf : e.wf) (hcnt : e.cnt ≤ 9000) (T : Ty) (hTs : T.size ≤ 63) (R : RV × RS) (hR : R = rW fuel e [] rs0) (hty : R.2.e = 0 → R.1.has T) :
  Calls Tryz.prog 19 #[.string s, .int .i64 fuel] w fun v w' => v = .returned (.tuple #[runRV (rEnd R), .int .i64 (rEnd R).2.e]) ∧ Below w.heap.size w w' := by
 have hcb0 : RS.cb rs0 := ⟨fun i o h => by simp [rs0] at h, fun x h => by simp [rs0] at h⟩
 have hcb := rW_cb fuel e [] rs0 hcb0
 have hrb := rW_rb fuel e [] rs0 hwf rfl (Nat.zero_le _)
 rw [← hR] at hcb hrb
 have hes := rEnd_same R
 have hcl : R.2.cells ≤ 20000 := by
  have h1 := hrb.cells
  have h2 := hrb.steps
  have h3 : rs0.cells = 0 := rfl
  have h4 : rs0.steps = 0 := rfl
  omega
 have htl : R.2.tide.length ≤ 400000000 := by
  have h1 := hrb.tide
  have h2 := hrb.steps
  have h3 : rs0.tide = [] := rfl
  have h4 : rs0.steps = 0 := rfl
  rw [h3, h4] at h1
  have h6 : e01 R.2.e ≤ 1 := by unfold e01; split <;> omega
  have h7 : e.cnt * (R.2.steps - 0 + e01 R.2.e) ≤ 9000 * 20001 := Nat.mul_le_mul hcnt (by omega)
  simp only [List.length_nil] at h1
  omega
 have htb : ∀ x ∈ R.2.tide, -20000 ≤ x ∧ x ≤ 1 := fun x hx => by have := hcb.t x hx; omega
 have HW : Hid _ := hwk
 have HR : Hid _ := hR
 have HIT : Hid _ := hit
 have HTY : Hid _ := hty
 unfold ptr at hst
 have HST : Hid _ := hst
 have HCB0 : Hid _ := hcb0
 obtain ⟨V, hV⟩ : ∃ V, V = runRV (rEnd R) := ⟨_, rfl⟩
 obtain ⟨E, hE⟩ : ∃ E : Nat, E = (rEnd R).2.e := ⟨_, rfl⟩
 rw [← hV, ← hE]
 have HV : Hid _ := hV
 have HE : Hid _ := hE
 have HES : Hid _ := hes
 have HTB : Hid _ := htb
 clear hwk hR hst hit hty hcb0 hcb hrb hV hE hes htb hwf
 go_enter Tryz.func19, Tryz.ntmps19
 go_wp2_with fail
 refine Calls.mono (HST.out _ ((Below.refl _ w).alloc (Nat.le_refl _) _)) ?_
 rintro _ w1 ⟨b, q, y, rfl, hb0, hT⟩
 have hq0 : w1.heap[w.heap.size]? = some (.cells #[.string ⟨#[]⟩, .int .i64 0, .int .i64 0, .int .i64 0, .int .i64 0] 23) := kept1 hb0
 have hb := below1 hb0
 have hql := blk_lt hq0
 have hin : PlIn w1 (w1.alloc (.cells (plCells (.slice none 0 0) (.slice none 0 0) (.slice none 0 0) fuel rs0) 88)) w1.heap.size (.slice none 0 0) (.slice none 0 0) (.slice none 0 0) [] fuel rs0 :=
  ⟨(Below.refl _ _).alloc (Nat.le_refl _) _, Nat.le_refl _, blk_new _ _, World.ownsRow_nil _ _ _ _, World.ownsRow_nil _ _ _ _, World.ownsRow_nil _ _ _ _, fun g hg => by simp [Value.ownBlock] at hg, rfl, fun i b o h => by simp at h, fun i j b h => by simp at h, ⟨fun i h => by simp [rs0] at h, fun i h => by simp [rs0] at h⟩⟩
 have hok : POk fuel e.cnt rs0 := ⟨hfu, Nat.zero_le _, Nat.le_refl _, Nat.le_refl _, by show 0 + e.cnt ≤ 9000; omega, by
  show 0 + e.cnt * (fuel - 0 + 1) ≤ 400000000
  have : e.cnt * (fuel - 0 + 1) ≤ 9000 * 20001 := Nat.mul_le_mul hcnt (by omega)
  omega, HCB0.out⟩
 have hc := HW.out w1 w1.heap.size 0 0 b _ [] none rs0 _ _ _ [] _ hT hin (by simp [isH]) (fun _ s U h => by simp [look] at h) (fun _ => hok)
 rw [← HR.out] at hc
 have HB : Hid _ := hb
 have HQ0 : Hid _ := hq0
 have HIT1 : Hid _ := HIT.out w1 hb
 clear hb hb0 hT HST HW hin hq0 hok HIT
 unfold ptr plCells rs0 at hc
 go_wp2_with fail
 refine hc.mono ?_
 rintro _ w2 ⟨vb, ov2, wv2, tv2, obs2, rfl, hv2, ho2, hi2, hP2⟩
 have e6 := hP2.c.2.2.2.1
 have hyl := hP2.c.2.2.2.2
 have HP2 : Hid _ := hP2
 have HV2 : Hid _ := hv2
 clear hc hv2 ho2 hi2 hP2
 by_cases he : R.2.e = 0
 ·have qe : ((R.2.e : Int) == 0) = true := by rw [he]; rfl
  have hct := told_any HIT1.out w1.heap.size fuel ov2 wv2 tv2 obs2 R.1 T R.2 vb w2 (HTY.out he) hTs HV2.out HP2.out
  have hend : rTold R.1 R.2 = rEnd R := by unfold rEnd; rw [if_pos he]
  rw [hend] at hct
  unfold ptr at hct
  clear hend he HP2 HV2
  go_wp2_with fail
  refine hct.mono ?_
  rintro _ w3 ⟨rfl, hi3, hP3⟩
  clear hi3 hct e6 qe
  have hq : w3.heap[w.heap.size]? = some (.cells #[.string ⟨#[]⟩, .int .i64 0, .int .i64 0, .int .i64 0, .int .i64 0] 23) := by rw [hP3.b0.block _ hql]; exact HQ0.out
  have HB2 : Hid (Below w.heap.size w w3) := HB.out.trans (hP3.b0.mono HB.out.size)
  obtain ⟨Q, hQ⟩ : ∃ Q, Q = rEnd R := ⟨_, rfl⟩
  have hQs := HES.out
  rw [← hQ] at hP3 hQs ⊢
  have HVQ : Hid (V = runRV Q) := by rw [hQ]; exact HV.out
  have HEQ : Hid (E = Q.2.e) := by rw [hQ]; exact HE.out
  have e6 := hP3.c.2.2.2.1
  have e5 := hP3.c.2.2.1
  have e4 := hP3.c.2.1
  have hyl3 := hP3.c.2.2.2.2
  by_cases he3 : Q.2.e = 0
  ·have qe : ((Q.2.e : Int) != 0) = false := by rw [he3]; rfl
   have HEE : Hid (E = 0) := by rw [HEQ.out, he3]; exact rfl
   have HVV : Hid (V = .agg #[.string (bs Q.1), .int .i64 Q.2.steps, .int .i64 Q.2.cells, .int .i64 (tideF (0, 0) Q.2.tide).2, .int .i64 (tideF (0, 0) Q.2.tide).1]) := by rw [HVQ.out]; unfold runRV; rw [if_neg (fun h => h he3)]; exact rfl
   obtain ⟨ta, tc, htv⟩ := rsl hP3.t
   have htl3 : Q.2.tide.length ≤ 400000000 := by rw [hQs.2.2]; exact htl
   have htb3 : ∀ x ∈ Q.2.tide, -20000 ≤ x ∧ x ≤ 1 := by rw [hQs.2.2]; exact HTB.out
   have e2 : w3.cell? ⟨w1.heap.size, 2, none⟩ = some (.slice ta Q.2.tide.length tc) := by rw [blk_cell hP3.y, ← htv]; rfl
   have HAT : Hid (∀ (j : Nat) (hj : j < Q.2.tide.length), ∃ g, ta = some ⟨g, 0, none⟩ ∧ g < w3.heap.size ∧ w3.cell? ⟨g, j, none⟩ = some (.int .i64 Q.2.tide[j])) := by
    intro j hj
    obtain ⟨g, cap, hsl⟩ := rsg hP3.t (by omega)
    have hrow := hP3.t
    rw [hsl] at hrow htv
    simp only [Value.slice.injEq] at htv
    have hc : w3.cell? ⟨g, j, none⟩ = some (.int .i64 Q.2.tide[j]) := by rw [hrow.cellAt j (by omega), List.getElem?_map, List.getElem?_eq_getElem hj]; rfl
    exact ⟨g, htv.1.symm, World.block_lt_of_cell? _ _ hc, hc⟩
   have HTB3 : Hid _ := htb3
   have HQ : Hid _ := hq
   clear hP3 htv hQ hQs htb3 he3 HTB HES HTY HE HV HEQ HVQ hq
   go_wp2
   go_loopw [13, 14, 15] (fun a b i wr => ∃ (j : Nat), j ≤ Q.2.tide.length ∧ i = .int .i64 j ∧ w3 = wr ∧ a = .int .i64 (tideF (0, 0) (Q.2.tide.take j)).1 ∧ b = .int .i64 (tideF (0, 0) (Q.2.tide.take j)).2) (fun _ _ i _ => Q.2.tide.length - (intOf i).toNat)
   case atStart => exact ⟨0, Nat.zero_le _, rfl, rfl, rfl, rfl⟩
   case round =>
    obtain ⟨j, hj, rfl, rfl, rfl, rfl⟩ := hrel
    have hbd := tideF_bd (Q.2.tide.take j) (0, 0) (fun x hx => HTB3.out x (List.mem_of_mem_take hx))
    have hln : (Q.2.tide.take j).length ≤ 400000000 := by rw [List.length_take]; omega
    simp only at hbd
    have hb1 := hbd.1
    have hb2 := hbd.2.1
    have hb3 := hbd.2.2.1
    have hb4 := hbd.2.2.2 400000000 (by omega) (by omega)
    by_cases hlt : j < Q.2.tide.length
    ·obtain ⟨g, hg, hgl, hcj⟩ := HAT.out j hlt
     have hx := HTB3.out Q.2.tide[j] (List.getElem_mem hlt)
     have hst : tideF (0, 0) (Q.2.tide.take (j + 1)) = ((tideF (0, 0) (Q.2.tide.take j)).1 + Q.2.tide[j], if (tideF (0, 0) (Q.2.tide.take j)).2 < (tideF (0, 0) (Q.2.tide.take j)).1 + Q.2.tide[j] then (tideF (0, 0) (Q.2.tide.take j)).1 + Q.2.tide[j] else (tideF (0, 0) (Q.2.tide.take j)).2) := by
      rw [List.take_succ_eq_append_getElem hlt, tideF_snoc]
     subst hg
     generalize Q.2.tide[j] = xj at *
     have HST : Hid _ := hst
     generalize tideF (0, 0) (Q.2.tide.take j) = tf at *
     clear hbd hst
     by_cases hgt : tf.2 < tf.1 + xj
     ·have HS2 : Hid (tideF (0, 0) (Q.2.tide.take (j + 1)) = (tf.1 + xj, tf.1 + xj)) := by rw [HST.out, if_pos hgt]; exact rfl
      clear HST
      go_wp2
      go_roundw
      case rel => exact ⟨j + 1, by omega, by go_num, by first | rfl | trivial, by rw [HS2.out], by rw [HS2.out]⟩
      case measure => simp [intOf]; omega
     ·have HS2 : Hid (tideF (0, 0) (Q.2.tide.take (j + 1)) = (tf.1 + xj, tf.2)) := by rw [HST.out, if_neg hgt]; exact rfl
      clear HST
      go_wp2
      go_roundw
      case rel => exact ⟨j + 1, by omega, by go_num, by first | rfl | trivial, by rw [HS2.out], by rw [HS2.out]⟩
      case measure => simp [intOf]; omega
    ·have hje : Q.2.tide.take j = Q.2.tide := List.take_of_length_le (by omega)
     rw [hje] at hb1 hb2 hb3 hb4 ⊢
     have hq := HQ.out
     have hjl : j = Q.2.tide.length := by omega
     subst hjl
     generalize tideF (0, 0) Q.2.tide = tf at *
     clear hbd hje hln hj hlt HAT HTB3 HQ HQ0
     have r0 : w3.cell? ⟨w.heap.size, 0, none⟩ = some (.string ⟨#[]⟩) := by rw [blk_cell hq]; rfl
     have r1 : w3.cell? ⟨w.heap.size, 1, none⟩ = some (.int .i64 0) := by rw [blk_cell hq]; rfl
     have r2 : w3.cell? ⟨w.heap.size, 2, none⟩ = some (.int .i64 0) := by rw [blk_cell hq]; rfl
     have r3 : w3.cell? ⟨w.heap.size, 3, none⟩ = some (.int .i64 0) := by rw [blk_cell hq]; rfl
     have r4 : w3.cell? ⟨w.heap.size, 4, none⟩ = some (.int .i64 0) := by rw [blk_cell hq]; rfl
     have g0 := blk_free hq 0
     have g1 := blk_free hq 1
     have g2 := blk_free hq 2
     have g3 := blk_free hq 3
     have g4 := blk_free hq 4
     have hqy : w.heap.size ≠ w1.heap.size := by omega
     have hyq : w1.heap.size ≠ w.heap.size := by omega
     have hql2 := blk_lt hq
     have hN : (((((w3.setCell ⟨w.heap.size, 0, none⟩ (.string (bs Q.1))).setCell ⟨w.heap.size, 1, none⟩ (.int .i64 Q.2.steps)).setCell ⟨w.heap.size, 2, none⟩ (.int .i64 Q.2.cells)).setCell ⟨w.heap.size, 3, none⟩ (.int .i64 tf.2)).setCell ⟨w.heap.size, 4, none⟩ (.int .i64 tf.1)).heap[w.heap.size]? = some (.cells #[.string (bs Q.1), .int .i64 Q.2.steps, .int .i64 Q.2.cells, .int .i64 tf.2, .int .i64 tf.1] 23) := blk_set (blk_set (blk_set (blk_set (blk_set hq 0 _) 1 _) 2 _) 3 _) 4 _
     have HN : Hid _ := hN
     have HBN : Hid (Below w.heap.size w (((((w3.setCell ⟨w.heap.size, 0, none⟩ (.string (bs Q.1))).setCell ⟨w.heap.size, 1, none⟩ (.int .i64 Q.2.steps)).setCell ⟨w.heap.size, 2, none⟩ (.int .i64 Q.2.cells)).setCell ⟨w.heap.size, 3, none⟩ (.int .i64 tf.2)).setCell ⟨w.heap.size, 4, none⟩ (.int .i64 tf.1))) := below_set (below_set (below_set (below_set (below_set HB2.out _ (Nat.le_refl _) _) _ (Nat.le_refl _) _) _ (Nat.le_refl _) _) _ (Nat.le_refl _) _) _ (Nat.le_refl _) _
     clear hN hq HB2
     go_wp2
     go_region
     obtain ⟨W7, hE7⟩ : ∃ W7, W7 = (((((w3.setCell ⟨w.heap.size, 0, none⟩ (.string (bs Q.1))).setCell ⟨w.heap.size, 1, none⟩ (.int .i64 Q.2.steps)).setCell ⟨w.heap.size, 2, none⟩ (.int .i64 Q.2.cells)).setCell ⟨w.heap.size, 3, none⟩ (.int .i64 tf.2)).setCell ⟨w.heap.size, 4, none⟩ (.int .i64 tf.1)).drew := ⟨_, rfl⟩
     have hN7 : W7.heap[w.heap.size]? = some (.cells #[.string (bs Q.1), .int .i64 Q.2.steps, .int .i64 Q.2.cells, .int .i64 tf.2, .int .i64 tf.1] 23) := by rw [hE7]; exact HN.out
     have HB7 : Hid (Below w.heap.size w W7) := by rw [hE7]; exact below_d HBN.out
     rw [← hE7]
     obtain ⟨s0, s1, s2, s3, s4⟩ := res_cells hN7
     clear hE7 hN7 HN HBN r0 r1 r2 r3 r4 g0 g1 g2 g3 g4
     go_wp2
     refine bodyPost_ret (v := .tuple #[.agg #[.string (bs Q.1), .int .i64 Q.2.steps, .int .i64 Q.2.cells, .int .i64 tf.2, .int .i64 tf.1], .int .i64 0]) (by simp [results, Tryz.results19, go_sem, s0, s1, s2, s3, s4]) rfl ⟨by rw [HVV.out, HEE.out]; rfl, HB7.out⟩
  ·have qe : ((Q.2.e : Int) != 0) = true := by simp; omega
   have HEE : Hid _ := HEQ.out
   have HVV : Hid (V = noRun) := by rw [HVQ.out]; unfold runRV; rw [if_pos he3]; exact rfl
   clear hP3 hQ hQs he3 HTB HES HTY HE HV HEQ HVQ HQ0
   generalize Q.2.e = er at *
   have r0 : w3.cell? ⟨w.heap.size, 0, none⟩ = some (.string ⟨#[]⟩) := by rw [blk_cell hq]; rfl
   have r1 : w3.cell? ⟨w.heap.size, 1, none⟩ = some (.int .i64 0) := by rw [blk_cell hq]; rfl
   have r2 : w3.cell? ⟨w.heap.size, 2, none⟩ = some (.int .i64 0) := by rw [blk_cell hq]; rfl
   have r3 : w3.cell? ⟨w.heap.size, 3, none⟩ = some (.int .i64 0) := by rw [blk_cell hq]; rfl
   have r4 : w3.cell? ⟨w.heap.size, 4, none⟩ = some (.int .i64 0) := by rw [blk_cell hq]; rfl
   have g0 := blk_free hq 0
   have g1 := blk_free hq 1
   have g2 := blk_free hq 2
   have g3 := blk_free hq 3
   have g4 := blk_free hq 4
   have hqy : w.heap.size ≠ w1.heap.size := by omega
   have hyq : w1.heap.size ≠ w.heap.size := by omega
   have hql2 := blk_lt hq
   have hN : (((((w3.setCell ⟨w.heap.size, 0, none⟩ (.string ⟨#[]⟩)).setCell ⟨w.heap.size, 1, none⟩ (.int .i64 0)).setCell ⟨w.heap.size, 2, none⟩ (.int .i64 0)).setCell ⟨w.heap.size, 3, none⟩ (.int .i64 0)).setCell ⟨w.heap.size, 4, none⟩ (.int .i64 0)).heap[w.heap.size]? = some (.cells #[.string ⟨#[]⟩, .int .i64 0, .int .i64 0, .int .i64 0, .int .i64 0] 23) := blk_set (blk_set (blk_set (blk_set (blk_set hq 0 _) 1 _) 2 _) 3 _) 4 _
   have HN : Hid _ := hN
   have HBN : Hid (Below w.heap.size w (((((w3.setCell ⟨w.heap.size, 0, none⟩ (.string ⟨#[]⟩)).setCell ⟨w.heap.size, 1, none⟩ (.int .i64 0)).setCell ⟨w.heap.size, 2, none⟩ (.int .i64 0)).setCell ⟨w.heap.size, 3, none⟩ (.int .i64 0)).setCell ⟨w.heap.size, 4, none⟩ (.int .i64 0))) := below_set (below_set (below_set (below_set (below_set HB2.out _ (Nat.le_refl _) _) _ (Nat.le_refl _) _) _ (Nat.le_refl _) _) _ (Nat.le_refl _) _) _ (Nat.le_refl _) _
   clear hN hq HB2
   go_wp2
   go_region
   obtain ⟨W7, hE7⟩ : ∃ W7, W7 = (((((w3.setCell ⟨w.heap.size, 0, none⟩ (.string ⟨#[]⟩)).setCell ⟨w.heap.size, 1, none⟩ (.int .i64 0)).setCell ⟨w.heap.size, 2, none⟩ (.int .i64 0)).setCell ⟨w.heap.size, 3, none⟩ (.int .i64 0)).setCell ⟨w.heap.size, 4, none⟩ (.int .i64 0)).drew := ⟨_, rfl⟩
   have hN7 : W7.heap[w.heap.size]? = some (.cells #[.string ⟨#[]⟩, .int .i64 0, .int .i64 0, .int .i64 0, .int .i64 0] 23) := by rw [hE7]; exact HN.out
   have HB7 : Hid (Below w.heap.size w W7) := by rw [hE7]; exact below_d HBN.out
   rw [← hE7]
   obtain ⟨s0, s1, s2, s3, s4⟩ := res_cells hN7
   clear hE7 hN7 HN HBN r0 r1 r2 r3 r4 g0 g1 g2 g3 g4
   go_wp2
   refine bodyPost_ret (v := .tuple #[.agg #[.string ⟨#[]⟩, .int .i64 0, .int .i64 0, .int .i64 0, .int .i64 0], .int .i64 er]) (by simp [results, Tryz.results19, go_sem, s0, s1, s2, s3, s4]) rfl ⟨by rw [HVV.out, HEE.out], HB7.out⟩
 ·have qe : ((R.2.e : Int) == 0) = false := by rw [beq_eq_false_iff_ne]; omega
  have qe2 : ((R.2.e : Int) != 0) = true := by simp; omega
  have hend : rEnd R = ([], R.2) := by unfold rEnd; rw [if_neg he]
  have HEE : Hid (E = R.2.e) := by rw [HE.out, hend]; exact rfl
  have HVV : Hid (V = noRun) := by rw [HV.out, hend]; unfold runRV; rw [if_pos he]; exact rfl
  have hq : w2.heap[w.heap.size]? = some (.cells #[.string ⟨#[]⟩, .int .i64 0, .int .i64 0, .int .i64 0, .int .i64 0] 23) := by rw [HP2.out.b0.block _ hql]; exact HQ0.out
  have HB2 : Hid (Below w.heap.size w w2) := HB.out.trans (HP2.out.b0.mono HB.out.size)
  clear hend HP2 HV2 HQ0 he
  generalize R.2.e = er at *
  have r0 : w2.cell? ⟨w.heap.size, 0, none⟩ = some (.string ⟨#[]⟩) := by rw [blk_cell hq]; rfl
  have r1 : w2.cell? ⟨w.heap.size, 1, none⟩ = some (.int .i64 0) := by rw [blk_cell hq]; rfl
  have r2 : w2.cell? ⟨w.heap.size, 2, none⟩ = some (.int .i64 0) := by rw [blk_cell hq]; rfl
  have r3 : w2.cell? ⟨w.heap.size, 3, none⟩ = some (.int .i64 0) := by rw [blk_cell hq]; rfl
  have r4 : w2.cell? ⟨w.heap.size, 4, none⟩ = some (.int .i64 0) := by rw [blk_cell hq]; rfl
  have g0 := blk_free hq 0
  have g1 := blk_free hq 1
  have g2 := blk_free hq 2
  have g3 := blk_free hq 3
  have g4 := blk_free hq 4
  have hqy : w.heap.size ≠ w1.heap.size := by omega
  have hyq : w1.heap.size ≠ w.heap.size := by omega
  have hql2 := blk_lt hq
  have hN : (((((w2.setCell ⟨w.heap.size, 0, none⟩ (.string ⟨#[]⟩)).setCell ⟨w.heap.size, 1, none⟩ (.int .i64 0)).setCell ⟨w.heap.size, 2, none⟩ (.int .i64 0)).setCell ⟨w.heap.size, 3, none⟩ (.int .i64 0)).setCell ⟨w.heap.size, 4, none⟩ (.int .i64 0)).heap[w.heap.size]? = some (.cells #[.string ⟨#[]⟩, .int .i64 0, .int .i64 0, .int .i64 0, .int .i64 0] 23) := blk_set (blk_set (blk_set (blk_set (blk_set hq 0 _) 1 _) 2 _) 3 _) 4 _
  have HN : Hid _ := hN
  have HBN : Hid (Below w.heap.size w (((((w2.setCell ⟨w.heap.size, 0, none⟩ (.string ⟨#[]⟩)).setCell ⟨w.heap.size, 1, none⟩ (.int .i64 0)).setCell ⟨w.heap.size, 2, none⟩ (.int .i64 0)).setCell ⟨w.heap.size, 3, none⟩ (.int .i64 0)).setCell ⟨w.heap.size, 4, none⟩ (.int .i64 0))) := below_set (below_set (below_set (below_set (below_set HB2.out _ (Nat.le_refl _) _) _ (Nat.le_refl _) _) _ (Nat.le_refl _) _) _ (Nat.le_refl _) _) _ (Nat.le_refl _) _
  clear hN hq HB2
  go_wp2
  go_region
  obtain ⟨W7, hE7⟩ : ∃ W7, W7 = (((((w2.setCell ⟨w.heap.size, 0, none⟩ (.string ⟨#[]⟩)).setCell ⟨w.heap.size, 1, none⟩ (.int .i64 0)).setCell ⟨w.heap.size, 2, none⟩ (.int .i64 0)).setCell ⟨w.heap.size, 3, none⟩ (.int .i64 0)).setCell ⟨w.heap.size, 4, none⟩ (.int .i64 0)).drew := ⟨_, rfl⟩
  have hN7 : W7.heap[w.heap.size]? = some (.cells #[.string ⟨#[]⟩, .int .i64 0, .int .i64 0, .int .i64 0, .int .i64 0] 23) := by rw [hE7]; exact HN.out
  have HB7 : Hid (Below w.heap.size w W7) := by rw [hE7]; exact below_d HBN.out
  rw [← hE7]
  obtain ⟨s0, s1, s2, s3, s4⟩ := res_cells hN7
  clear hE7 hN7 HN HBN r0 r1 r2 r3 r4 g0 g1 g2 g3 g4
  go_wp2
  refine bodyPost_ret (v := .tuple #[.agg #[.string ⟨#[]⟩, .int .i64 0, .int .i64 0, .int .i64 0, .int .i64 0], .int .i64 er]) (by simp [results, Tryz.results19, go_sem, s0, s1, s2, s3, s4]) rfl ⟨by rw [HVV.out, HEE.out], HB7.out⟩
end Go.Proofs.YtpicaknklgccoaaGreatDoor
