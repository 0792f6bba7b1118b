import Derived.Test.YtpicaknklgccoaaGreatDoorX25
namespace Go.Proofs.YtpicaknklgccoaaGreatDoor
open Go.RowKit
open Go.Lib (decDigits)
def E12 (st : ESt) : Prop := st.e = 0 ∨ st.e = 12
theorem begun_e12 {fuel : Nat} {st : ESt} {f : ESt → Vl × ESt} (h : E12 st) (hf : ∀ st', E12 st' → E12 (f st').2) : E12 (begun fuel st f).2 := by
 unfold begun
 split
 ·exact h
 ·split
  ·exact Or.inr rfl
  ·exact hf _ h
theorem turns_e12 {f : Vl → ESt → Vl × ESt} (hf : ∀ v st, E12 st → E12 (f v st).2) : ∀ (k : Nat) (v : Vl) (st : ESt), E12 st → E12 (turns f k v st).2
 | 0, _, _, h => h
 | k + 1, v, st, h => by
  simp only [turns]
  split
  ·exact h
  ·exact turns_e12 hf k _ _ (hf v st h)
theorem made_e12 (k : Kw) (vs : List Vl) (st : ESt) : (madeV k vs st).2.e = st.e := by unfold madeV; split <;> rfl
mutual
theorem ev_e12 (fuel : Nat) : ∀ (t : PT) (env : VEnv) (st : ESt), E12 st → E12 (ev fuel t env st).2
 | .num _ _, _, _, h => by unfold ev; exact begun_e12 h (fun _ h => h)
 | .name _ _, _, _, h => by unfold ev; exact begun_e12 h (fun _ h => h)
 | .node _ k nm _ kids, env, st, h => by
  unfold ev
  refine begun_e12 h (fun st' h' => ?_)
  split
  ·exact evLet_e12 fuel nm kids env st' h'
  ·split
   ·exact evIf_e12 fuel kids env st' h'
   ·split
    ·exact evLoop_e12 fuel nm kids env st' h'
    ·have hk := evKids_e12 fuel kids env st' h'
     simp only
     split
     ·exact hk
     ·unfold E12; rw [made_e12]; exact hk
theorem evKids_e12 (fuel : Nat) : ∀ (ts : List PT) (env : VEnv) (st : ESt), E12 st → E12 (evKids fuel ts env st).2
 | [], _, _, h => h
 | a :: r, env, st, h => by simp only [evKids]; exact evKids_e12 fuel r env _ (ev_e12 fuel a env st h)
theorem evLet_e12 (fuel : Nat) (nm : List UInt8) : ∀ (ts : List PT) (env : VEnv) (st : ESt), E12 st → E12 (evLet fuel nm ts env st).2
 | [], _, _, h => h
 | [_], _, _, h => h
 | [a, b], env, st, h => by simp only [evLet]; exact ev_e12 fuel b _ _ (ev_e12 fuel a env st h)
 | _ :: _ :: _ :: _, _, _, h => h
theorem evIf_e12 (fuel : Nat) : ∀ (ts : List PT) (env : VEnv) (st : ESt), E12 st → E12 (evIf fuel ts env st).2
 | [], _, _, h => h
 | [_], _, _, h => h
 | [_, _], _, _, h => h
 | [a, b, c], env, st, h => by
  simp only [evIf]
  split
  ·exact ev_e12 fuel b env _ (ev_e12 fuel a env st h)
  ·exact ev_e12 fuel c env _ (ev_e12 fuel a env st h)
 | _ :: _ :: _ :: _ :: _, _, _, h => h
theorem evLoop_e12 (fuel : Nat) (nm : List UInt8) : ∀ (ts : List PT) (env : VEnv) (st : ESt), E12 st → E12 (evLoop fuel nm ts env st).2
 | [], _, _, h => h
 | [_], _, _, h => h
 | [_, _], _, _, h => h
 | [a, b, c], env, st, h => by
  simp only [evLoop]
  exact turns_e12 (fun v st h => ev_e12 fuel c _ st h) _ _ _ (ev_e12 fuel b env _ (ev_e12 fuel a env st h))
 | _ :: _ :: _ :: _ :: _, _, _, h => h
end
theorem built_PE {placed : Bool} {rg : List UInt8} (hr : RgOk placed rg) {x : KE} {t : Nat} (h : KT [] x t) (hp : x.prs ≤ 100) :
  ∃ e, PE placed (tokens (x.pt rg).tidy) e [] ∧ chkAns e = (0, 0) ∧ e.np = x.pt rg ∧ ∀ fuel env st, ev fuel e env st = ev fuel (x.pt []) env st := by
 obtain ⟨e, he, hnp⟩ := tidy_PE (x.pt rg) (pt_ok hr h)
 rw [pt_np] at hnp
 have hwt : WT [] (x.pt rg) (tyZ t) := pt_WT (rg := rg) h (by simp)
 refine ⟨e, he, chk_ok (np_WT e (by rw [hnp]; exact hwt)) ?_, hnp, fun fuel env st => ?_⟩
 ·rw [← np_prs, hnp, pt_prs rg h]; exact hp
 ·rw [← np_ev, hnp, rg_ev]
set_option maxRecDepth 100000 in
theorem ksame_any (S : ByteArray) (a b c d : Int) (w : World) : Calls Tryz.prog 27 #[.agg #[.string S, .int .i64 a, .int .i64 b, .int .i64 c, .int .i64 d], .agg #[.string S, .int .i64 a, .int .i64 b, .int .i64 c, .int .i64 d]] w fun v w' => v = .returned (.bool true) ∧ Below w.heap.size w w' := by
 have q0 : (S.toList == S.toList) = true := by simp
 have q1 : (a == a) = true := by simp
 have q2 : (b == b) = true := by simp
 have q3 : (c == c) = true := by simp
 have q4 : (d == d) = true := by simp
 go_enter Tryz.func27, Tryz.ntmps27
 go_wp2
 go_ret
 exact ⟨rfl, ((Below.refl _ w).alloc (Nat.le_refl _) _).alloc (by simp) _⟩
set_option maxRecDepth 100000 in
theorem knought_any (w : World) : Calls Tryz.prog 26 #[.agg #[.string ⟨#[]⟩, .int .i64 0, .int .i64 0, .int .i64 0, .int .i64 0]] w fun v w' => v = .returned (.bool true) ∧ Below w.heap.size w w' := by
 have HS : Hid _ := fun W => ksame_any ⟨#[]⟩ 0 0 0 0 W
 have hq := blk_new w res0
 obtain ⟨s0, s1, s2, s3, s4⟩ := res_cells hq
 have hl := blk_lt hq
 have HB : Hid _ := below_alZ (Below.refl _ w) res0
 clear hq
 go_enter Tryz.func26, Tryz.ntmps26
 go_wp2_with fail
 refine Calls.mono (HS.out _) ?_
 rintro _ w2 ⟨rfl, hb⟩
 have HB2 : Hid _ := HB.out.trans (hb.mono HB.out.size)
 clear hb HS
 go_wp2
 go_ret
 exact ⟨rfl, HB2.out⟩
set_option maxRecDepth 100000 in
set_option maxHeartbeats 4000000 in
theorem Known_any (t fuel : Int) (rv : Value) (raw : List Int) (w : World) (ht : I64 t) (hfu : I64 fuel) (h : RawIn w rv raw) (htab : Lib.TabIs Tryz.prog w "internal/strconv.uint64pow10" .u64 Lib.pow10Tab) :
  Calls Tryz.prog 7 #[.int .i64 t, rv, .int .i64 fuel] w fun v w' => v = .returned (.bool true) ∧ Below w.heap.size w w' := by
 obtain ⟨ra, rn, rc, rfl⟩ : ∃ ra rn rc, rv = .slice ra rn rc := by
  rcases h.2 with ⟨h1, _⟩ | ⟨a, cap, h1, _, _⟩
  ·exact ⟨_, _, _, h1⟩
  ·exact ⟨_, _, _, h1⟩
 have hbd := build_any w t (.slice ra rn rc) raw ht h
 obtain ⟨hKT, hlen, hprs, _⟩ := build_ok t raw
 generalize buildF t raw = x at *
 obtain ⟨e, hpe, hchk, _, hev⟩ := built_PE (placed := false) (rg := []) rfl hKT (by omega)
 have hplen := pt_len (rg := []) hKT
 have hF := pickF_lt fuel 20001 (by omega)
 have hpk := fun W => pick_any fuel 20001 W hfu (by omega) (by omega)
 generalize pickF fuel 20001 = F at *
 have htx := ktext_any [] hKT (by simp)
 obtain ⟨src, hsrc⟩ : ∃ src, src = bs (x.pt []).tidy := ⟨_, rfl⟩
 have hsl : src.data.toList = (x.pt []).tidy := by rw [hsrc]; simp [bs]
 have hss : src.size ≤ 3000 := by rw [hsrc, bs_size]; simp at hplen; omega
 rw [← hsl] at hpe
 have hit : ∀ W, Below w.heap.size w W → ItoaOk W := fun W hW => by
  intro n W' hn hW'
  exact itoa_ok w htab n W' hn (hW.trans (hW'.mono hW.size))
 obtain ⟨R, hR⟩ : ∃ R, R = ev F (x.pt []) [] ⟨0, 0, 0⟩ := ⟨_, rfl⟩
 have hE : ev F e [] ⟨0, 0, 0⟩ = R := by rw [hev, hR]
 have hchk1 : (chkAns e).1 = 0 := by rw [hchk]
 have hEv : ∀ W, Below w.heap.size w W → Calls Tryz.prog 12 #[.string src, .int .i64 F] W fun v w' => v = .returned (.tuple #[evalV R, .int .i64 R.2.e]) ∧ Below W.heap.size W w' := fun W hW => by
  have := leaseEval_tree src W hss (Lib.tabBelow_of_tabIs htab W hW) e hpe hchk1 F (by omega)
  rw [hE] at this; exact this
 have hCk : ∀ W, Calls Tryz.prog 25 #[.string src] W fun v w' => v = .returned (.tuple #[.int .i64 (0 : Nat), .int .i64 (0 : Nat)]) ∧ Below W.heap.size W w' := fun W => by
  refine leaseCheck_any src W 0 0 (fun W => ?_)
  refine Calls.mono (readPlain_full src W hss e hpe) ?_
  rintro v w' ⟨x1, n1, c1, x2, n2, c2, ns, hv, hb, _, _⟩
  rw [hchk] at hv
  exact ⟨x1, n1, c1, x2, n2, c2, hv, hb⟩
 have hWk : ∀ W p, Below w.heap.size w W → KIn W x p → Calls Tryz.prog 24 #[.pointer (some ⟨p, 0, none⟩), .int .i64 F] W fun v w' => v = .returned (.tuple #[evalV R, .bool (decide (R.2.e = 0))]) ∧ Below W.heap.size W w' := fun W p hW hk =>
  worked_any W x _ p F (by omega) hKT hk (fun W' hW' => hit W' (hW.trans (hW'.mono hW.size))) R hR
 have hTx : ∀ W p, Below w.heap.size w W → KIn W x p → Calls Tryz.prog 22 #[.pointer (some ⟨p, 0, none⟩), .string ⟨#[]⟩] W fun v w' => v = .returned (.string src) ∧ Below W.heap.size W w' := fun W p hW hk => by
  have := htx p W hk (by simp at hplen; omega) (fun W' hW' => hit W' (hW.trans (hW'.mono hW.size)))
  rw [← hsrc] at this; exact this
 have h12 : R.2.e = 0 ∨ R.2.e = 12 := by rw [hR]; exact ev_e12 F (x.pt []) [] ⟨0, 0, 0⟩ (Or.inl rfl)
 have HBD : Hid _ := hbd
 have HPK : Hid _ := hpk
 have HEV : Hid _ := hEv
 have HCK : Hid _ := hCk
 have HWK : Hid _ := hWk
 have HTX : Hid _ := hTx
 clear hbd hKT hlen hprs hpe hchk hev hplen hpk htx hsl hss hit hR hE hchk1 hEv hCk hWk hTx h htab hsrc ht hfu
 rcases h12 with he | he
 ·obtain ⟨S, a, b, c, d, hV⟩ := evalV_agg R
  rw [hV] at HEV HWK
  rw [he] at HEV
  rw [show decide (R.2.e = 0) = true by simp [he]] at HWK
  have HSM : Hid _ := fun W => ksame_any S a b c d W
  clear hV he
  go_enter Tryz.func7, Tryz.ntmps7
  go_wp2_with fail
  refine Calls.mono HBD.out ?_
  rintro _ w1 ⟨p, rfl, hb1, hk1⟩
  have HB1 : Hid _ := hb1
  have HK1 : Hid _ := hk1
  clear hb1 hk1 HBD
  go_wp2_with fail
  refine Calls.mono (HTX.out w1 p HB1.out HK1.out) ?_
  rintro _ w2 ⟨rfl, hb2⟩
  have HB2 : Hid _ := HB1.out.trans (hb2.mono HB1.out.size)
  have HK2 : Hid _ := HK1.out.below hb2
  clear hb2 HTX HB1 HK1
  go_wp2_with fail
  refine Calls.mono (HPK.out _) ?_
  rintro _ w2 ⟨rfl, rfl⟩
  go_wp2_with fail
  refine Calls.mono (HWK.out w2 p HB2.out HK2.out) ?_
  rintro _ w3 ⟨rfl, hb3⟩
  have hB3 := HB2.out.trans (hb3.mono HB2.out.size)
  have HB3 : Hid _ := hB3.alloc hB3.size (.cells #[.string S, .int .i64 a, .int .i64 b, .int .i64 c, .int .i64 d] 23 (0, 0))
  have HQ3 : Hid _ := blk_new w3 (.cells #[.string S, .int .i64 a, .int .i64 b, .int .i64 c, .int .i64 d] 23 (0, 0))
  clear hb3 hB3 HWK HB2 HK2
  go_wp2_with fail
  refine Calls.mono (HCK.out _) ?_
  rintro _ w4 ⟨rfl, hb4⟩
  have HB4 : Hid _ := HB3.out.trans (hb4.mono HB3.out.size)
  have HQ4 : Hid _ := (hb4.block _ (blk_lt HQ3.out)).trans HQ3.out
  clear hb4 HCK HB3 HQ3
  go_wp2_with fail
  refine Calls.mono (HEV.out w4 HB4.out) ?_
  rintro _ w5 ⟨rfl, hb5⟩
  have hB5 := HB4.out.trans (hb5.mono HB4.out.size)
  have hq5 := (hb5.block _ (blk_lt HQ4.out)).trans HQ4.out
  obtain ⟨s0, s1, s2, s3, s4⟩ := res_cells hq5
  have hql := blk_lt hq5
  have HB5 : Hid _ := hB5.alloc hB5.size (.cells #[.string S, .int .i64 a, .int .i64 b, .int .i64 c, .int .i64 d] 23 (0, 0))
  clear hb5 hB5 HEV HB4 HQ4 hq5
  generalize w3.heap.size = Q at *
  go_wp2_with fail
  refine Calls.mono (HSM.out _) ?_
  rintro _ w6 ⟨rfl, hb6⟩
  have HB6 : Hid _ := HB5.out.trans (hb6.mono HB5.out.size)
  clear hb6 HB5 HSM
  go_wp2
  go_ret
  exact ⟨rfl, HB6.out⟩
 ·have hV : evalV R = .agg #[.string ⟨#[]⟩, .int .i64 0, .int .i64 0, .int .i64 0, .int .i64 0] := by unfold evalV; rw [if_pos (by omega)]
  rw [hV] at HEV HWK
  rw [he] at HEV
  rw [show decide (R.2.e = 0) = false by simp [he]] at HWK
  have HNO : Hid _ := fun W => knought_any W
  clear hV he
  go_enter Tryz.func7, Tryz.ntmps7
  go_wp2_with fail
  refine Calls.mono HBD.out ?_
  rintro _ w1 ⟨p, rfl, hb1, hk1⟩
  have HB1 : Hid _ := hb1
  have HK1 : Hid _ := hk1
  clear hb1 hk1 HBD
  go_wp2_with fail
  refine Calls.mono (HTX.out w1 p HB1.out HK1.out) ?_
  rintro _ w2 ⟨rfl, hb2⟩
  have HB2 : Hid _ := HB1.out.trans (hb2.mono HB1.out.size)
  have HK2 : Hid _ := HK1.out.below hb2
  clear hb2 HTX HB1 HK1
  go_wp2_with fail
  refine Calls.mono (HPK.out _) ?_
  rintro _ w2 ⟨rfl, rfl⟩
  go_wp2_with fail
  refine Calls.mono (HWK.out w2 p HB2.out HK2.out) ?_
  rintro _ w3 ⟨rfl, hb3⟩
  have hB3 := HB2.out.trans (hb3.mono HB2.out.size)
  have HB3 : Hid _ := hB3.alloc hB3.size res0
  clear hb3 hB3 HWK HB2 HK2
  go_wp2_with fail
  refine Calls.mono (HCK.out _) ?_
  rintro _ w4 ⟨rfl, hb4⟩
  have HB4 : Hid _ := HB3.out.trans (hb4.mono HB3.out.size)
  clear hb4 HCK HB3
  go_wp2_with fail
  refine Calls.mono (HEV.out w4 HB4.out) ?_
  rintro _ w5 ⟨rfl, hb5⟩
  have hB5 := HB4.out.trans (hb5.mono HB4.out.size)
  have HB5 : Hid _ := hB5.alloc hB5.size res0
  clear hb5 hB5 HEV HB4
  go_wp2_with fail
  refine Calls.mono (HNO.out _) ?_
  rintro _ w6 ⟨rfl, hb6⟩
  have HB6 : Hid _ := HB5.out.trans (hb6.mono HB5.out.size)
  clear hb6 HB5 HNO
  go_wp2
  go_ret
  exact ⟨rfl, HB6.out⟩
end Go.Proofs.YtpicaknklgccoaaGreatDoor
