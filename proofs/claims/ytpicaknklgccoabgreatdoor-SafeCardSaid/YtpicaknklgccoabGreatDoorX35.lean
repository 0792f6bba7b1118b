import Derived.Test.YtpicaknklgccoabGreatDoorX34
import Derived.Test.YtpicaknklgccoabGreatDoorX27
import Derived.Lib.SlBytesRow
import Derived.Lib.BufferRead
import Derived.Test.YtpicaknklgccoabGreatDoorX32
namespace Go.Proofs.YtpicaknklgccoabGreatDoor
open Go.RowKit
set_option maxRecDepth 100000 in
set_option maxHeartbeats 2000000 in
theorem fm_form (wb : Nat) (x1 : Option Addr) (n1 c1 : Nat) (x2 : Option Addr) (n2 c2 : Nat) (ns : List NR) (op : List Int) (p : Nat) (k : Kw) (nm rg : List UInt8) (kids : List PT) (hkn : k ≠ .new) (ih : ∀ x ∈ kids, ExpOk wb (.slice x1 n1 c1) (.slice x2 n2 c2) ns op x) : FmOk wb (.slice x1 n1 c1) (.slice x2 n2 c2) ns op (.node p k nm rg kids) := by
 intro base w v tx hsh hta hwf hle hlim hin henv
 simp only [Shows] at hsh
 obtain ⟨⟨n, hn, hf, hwd, hp0, hp1, hp2⟩, hks⟩ := hsh
 simp only [PT.tame] at hta
 simp only [PT.wf] at hwf
 simp only [PT.cnt] at hle hlim
 have har : kids.length ≤ 3 := by rw [hwf.1]; cases k <;> decide
 have hno := Node_in' w (.slice x1 n1 c1) (.slice x2 n2 c2) ns op (henv.tree w (Below.refl _ _)) (base + cntL kids) n hn henv.len
 have hb := hin.blk
 have hbl := henv.len
 have y0 : w.cell? ⟨wb, 0, none⟩ = some (.slice x1 n1 c1) := by rw [blk_cell hb]; rfl
 have y1 : w.cell? ⟨wb, 1, none⟩ = some (.slice x2 n2 c2) := by rw [blk_cell hb]; rfl
 have hrg := fun w => Region_nil w (base + cntL kids)
 have hcall := fun w' (h1 : WIn wb w' (.slice x1 n1 c1) (.slice x2 n2 c2) v tx) (h2 : WEnv wb w' (.slice x1 n1 c1) (.slice x2 n2 c2) ns op) =>
  wbracket_any wb x1 n1 c1 x2 n2 c2 ns op k nm kids hkn har ih base w' v tx n hf hwd hp0 hp1 hp2 hks hta.1 hta.2 hwf.2 (by omega) hlim h1 h2
 rw [accT_end p k nm rg kids hkn] at hcall
 have q1 : ((n.form : Int) == 1) = false := ibeq_false (b := 1) (by rw [hf]; cases k <;> decide)
 have q2 : ((n.form : Int) == 2) = false := ibeq_false (b := 2) (by rw [hf]; cases k <;> decide)
 have q12 : ((n.form : Int) == 12) = false := ibeq_false (b := 12) (by rw [hf]; cases k <;> first | decide | exact absurd rfl hkn)
 unfold nrVal at hcall
 have HC : Hid _ := hcall
 have HIN : Hid _ := hin
 have HENV : Hid _ := henv
 have hlt := blk_lt hb
 unfold treeV nrVal at hno
 simp only [PT.cnt]
 rw [show (((base + (1 + cntL kids) : Nat) : Int) - 1) = ((base + cntL kids : Nat) : Int) from by omega]
 generalize (PT.node p k nm rg kids).ptx = px at *
 generalize base + cntL kids = K at *
 clear hb hin henv hcall hn hf hwd hp0 hp1 hp2 hks ih hta hwf hlim hle
 go_enter Tryz.func77, Tryz.ntmps77
 go_wp2_with fail
 refine Calls.mono hno ?_
 rintro _ w1 ⟨rfl, hb1⟩
 have hs1 := hb1.size
 have hB0 := hb1.alloc hb1.size (nrO n)
 have hwl : wb < w1.heap.size := by omega
 have hwn : wb ≠ w1.heap.size := by omega
 have y2 : w1.cell? ⟨wb, 2, none⟩ = some (.slice none 0 0) := by rw [blk_cell (HIN.out.below hb1).blk]; rfl
 have y3 : w1.cell? ⟨wb, 3, none⟩ = some (.slice none 0 0) := by rw [blk_cell (HIN.out.below hb1).blk]; rfl
 go_wp2_with fail
 refine (hrg _).mono ?_
 rintro _ w2 ⟨rfl, hb2⟩
 have hB : Below w.heap.size w w2 := hB0.trans (hb2.mono hB0.size)
 have hnb : w2.heap[w1.heap.size]? = some (nrO n) := by rw [hb2.block _ (by simp)]; exact blk_new _ _
 obtain ⟨d0, d1, d2, d3, d4, d5, d6, d7, d8, d9⟩ := nr_cells10 hnb
 have hnl := blk_lt hnb
 clear hb2 hnb
 go_wp2_with fail
 refine (HC.out _ (HIN.out.below hB) (HENV.out.on (hB.mono (Nat.le_of_lt hlt)))).mono ?_
 rintro _ w3 ⟨v', rfl, hfr, hin'⟩
 go_wp2_with fail
 refine bodyPost_end (v := .tuple #[]) (by simp [results, Tryz.results77, go_sem]) rfl ⟨v', rfl, (WFr.of_below v hB).trans hfr, hin'⟩
theorem exp_any (wb : Nat) (x1 : Option Addr) (n1 c1 : Nat) (x2 : Option Addr) (n2 c2 : Nat) (ns : List NR) (op : List Int) (t : PT) : t.wf → ExpOk wb (.slice x1 n1 c1) (.slice x2 n2 c2) ns op t := by
 induction t using PT.ind with
 | h1 p s => exact fun _ => exp_of _ _ _ _ _ _ (fm_num wb x1 n1 c1 x2 n2 c2 ns op p s)
 | h2 p s => exact fun _ => exp_of _ _ _ _ _ _ (fm_name wb x1 n1 c1 x2 n2 c2 ns op p s)
 | h3 p k nm rg kids ih =>
  intro hwf
  simp only [PT.wf] at hwf
  have ih' : ∀ x ∈ kids, ExpOk wb (.slice x1 n1 c1) (.slice x2 n2 c2) ns op x := fun x hx => ih x hx (wfL_mem hwf.2 x hx)
  by_cases hk : k = .new
  ·subst hk
   match kids, hwf.1, ih' with
   | [x], _, ih' => exact exp_of _ _ _ _ _ _ (fm_new wb x1 n1 c1 x2 n2 c2 ns op p nm rg x (ih' x (by simp)))
  ·exact exp_of _ _ _ _ _ _ (fm_form wb x1 n1 c1 x2 n2 c2 ns op p k nm rg kids hk ih')
end Go.Proofs.YtpicaknklgccoabGreatDoor
namespace Go.Proofs.YtpicaknklgccoabGreatDoor
open Go.RowKit
open Go.Lib (strCells)
theorem Tryz.undU8 : Tryz.prog.underlying 5 = some (.int .u8) := by kernel_rfl
theorem conv_row (w : World) (base : Nat) (v : Value) (tx : List UInt8) (h : w.ownsRow base 5 1 v tx.length (strCells (bs tx))) : (convert 82 9 v).run Tryz.prog w = .ok (.string (bs tx)) w := by
 rcases h.2 with ⟨h1, h2⟩ | ⟨g, cap, cur, h1, _⟩
 ·obtain rfl : tx = [] := List.eq_nil_of_length_eq_zero h2
  subst h1
  exact Lib.run_convert_nil_bytes w _ _ _ 0 Tryz.undBytes Tryz.undU8 Tryz.undStr
 ·subst h1
  have hc : Lib.Bytes w g 0 (bs tx) := by
   intro i hi
   rw [Nat.zero_add, h.cellAt i (by rw [bs_size] at hi; omega)]
   have hi' : i < tx.length := by rw [bs_size] at hi; exact hi
   simp [strCells, bs, hi']
   rfl
  have := Lib.run_convert_whole (P := Tryz.prog) w _ _ _ Tryz.undBytes Tryz.undU8 Tryz.undStr g 0 (bs tx) hc cap
  rw [bs_size] at this
  exact this
abbrev bxT (x1 : Option Addr) (n1 c1 : Nat) (x2 : Option Addr) (n2 c2 : Nat) : Obj := .cells #[.slice x1 n1 c1, .slice x2 n2 c2] 62
abbrev bxL : Obj := .cells #[.slice none 0 0, .slice none 0 0] 73
abbrev bxW (x1 : Option Addr) (n1 c1 : Nat) (x2 : Option Addr) (n2 c2 : Nat) : Obj := .cells #[.slice x1 n1 c1, .slice x2 n2 c2, .slice none 0 0, .slice none 0 0, .slice none 0 0] 95
set_option maxRecDepth 100000 in
set_option maxHeartbeats 4000000 in
theorem Placed_nil (w : World) (x1 : Option Addr) (n1 c1 : Nat) (x2 : Option Addr) (n2 c2 : Nat) (ns : List NR) (op : List Int) (t : PT) (hT : TreeIn w (.slice x1 n1 c1) (.slice x2 n2 c2) ns op) (htab : Lib.TabIs Tryz.prog w "internal/strconv.uint64pow10" .u64 Lib.pow10Tab)
  (hsh : Shows ns t 0) (hta : t.tame) (hwf : t.wf) (hcnt : t.cnt = ns.length) (hl : ns.length ≤ 9000) :
  Calls Tryz.prog 32 #[treeV (.slice x1 n1 c1) (.slice x2 n2 c2), .agg #[.slice none 0 0, .slice none 0 0]] w fun v w' => v = .returned (.string (bs t.ptx)) ∧ Below w.heap.size w w' := by
 have hA : Below w.heap.size w ((w.alloc (bxT x1 n1 c1 x2 n2 c2)).alloc bxL) := ((Below.refl _ _).alloc (Nat.le_refl _) _).alloc (by simp) _
 have hB : Below w.heap.size w (((w.alloc (bxT x1 n1 c1 x2 n2 c2)).alloc bxL).alloc (bxW x1 n1 c1 x2 n2 c2)) := hA.alloc (by simp; omega) _
 have hin : WIn (w.heap.size + 2) (((w.alloc (bxT x1 n1 c1 x2 n2 c2)).alloc bxL).alloc (bxW x1 n1 c1 x2 n2 c2)) (.slice x1 n1 c1) (.slice x2 n2 c2) (.slice none 0 0) [] :=
  ⟨by have := blk_new ((w.alloc (bxT x1 n1 c1 x2 n2 c2)).alloc bxL) (bxW x1 n1 c1 x2 n2 c2); simpa using this, World.ownsRow_nil _ _ _ _⟩
 have henv : WEnv (w.heap.size + 2) (((w.alloc (bxT x1 n1 c1 x2 n2 c2)).alloc bxL).alloc (bxW x1 n1 c1 x2 n2 c2)) (.slice x1 n1 c1) (.slice x2 n2 c2) ns op :=
  ⟨fun w' h' => hT.below (hB.trans (h'.mono (by omega))), fun w' h' => Lib.tabBelow_of_tabIs htab w' (hB.trans (h'.mono (by omega))), hl⟩
 have hro := fun w' (h : Below w.heap.size w w') => Root_any w' _ _ ns op (hT.below h) hl
 have hex := fun w' h1 h2 => exp_any (w.heap.size + 2) x1 n1 c1 x2 n2 c2 ns op t hwf 0 w' (.slice none 0 0) [] hsh hta hwf (by omega) (by simp; omega) h1 h2
 rw [Nat.zero_add, hcnt] at hex
 simp only [List.nil_append] at hex
 unfold treeV at hro
 have HRO : Hid _ := hro
 have HEX : Hid _ := hex
 have HIN : Hid _ := hin
 have HENV : Hid _ := henv
 have HB : Hid _ := hB
 clear hro hex hin henv hA hT htab hsh hta hwf hcnt hB
 unfold treeV
 go_enter Tryz.func32, Tryz.ntmps32
 go_wp2_with fail
 refine (HRO.out _ HB.out).mono ?_
 rintro _ w1 ⟨rfl, hb1⟩
 have HB1 : Hid _ := hb1
 clear hb1
 go_wp2_with fail
 refine (HEX.out _ (HIN.out.below HB1.out) (HENV.out.on (HB1.out.mono (by simp)))).mono ?_
 rintro _ w2 ⟨v', rfl, hfr, hin'⟩
 have hb2 : Below w.heap.size w w2 := HB.out.trans (((HB1.out.mono (by simp)).trans ((HIN.out.below HB1.out).fr hfr)).mono (by omega))
 obtain ⟨xa, xc, hv⟩ := slice_any hin'.row
 subst hv
 have y2 : w2.cell? ⟨w.heap.size + 2, 4, none⟩ = some (.slice xa t.ptx.length xc) := by rw [blk_cell hin'.blk]; rfl
 have hcv := conv_row w2 _ _ _ hin'.row
 have HB2 : Hid _ := hb2
 clear hfr hin' hb2 HEX HIN HENV HRO HB1 HB
 go_wp2
 go_ret
 exact ⟨rfl, HB2.out⟩
set_option maxRecDepth 100000 in
set_option maxHeartbeats 4000000 in
theorem Plain_any (w : World) (x1 : Option Addr) (n1 c1 : Nat) (x2 : Option Addr) (n2 c2 : Nat) (ns : List NR) (op : List Int) (t : PT) (hT : TreeIn w (.slice x1 n1 c1) (.slice x2 n2 c2) ns op) (htab : Lib.TabIs Tryz.prog w "internal/strconv.uint64pow10" .u64 Lib.pow10Tab)
  (hsh : Shows ns t 0) (hta : t.tame) (hwf : t.wf) (hcnt : t.cnt = ns.length) (hl : ns.length ≤ 9000) :
  Calls Tryz.prog 37 #[treeV (.slice x1 n1 c1) (.slice x2 n2 c2)] w fun v w' => v = .returned (.string (bs t.ptx)) ∧ Below w.heap.size w w' := by
 have hpl := fun w' (hb : Below w.heap.size w w') => Placed_nil w' x1 n1 c1 x2 n2 c2 ns op t (hT.below hb) (Lib.tabBelow_of_tabIs htab w' hb) hsh hta hwf hcnt hl
 unfold treeV at hpl
 unfold treeV
 have HP : Hid _ := hpl
 clear hpl hT htab hsh hta hwf hcnt
 go_enter Tryz.func37, Tryz.ntmps37
 go_wp2_with fail
 refine (HP.out _ ((Below.refl _ w).alloc (Nat.le_refl _) (bxT x1 n1 c1 x2 n2 c2))).mono ?_
 rintro _ w1 ⟨rfl, hb1⟩
 have HB1 : Hid _ := ((Below.refl _ w).alloc (Nat.le_refl _) (bxT x1 n1 c1 x2 n2 c2)).trans (hb1.mono (by simp))
 clear hb1
 go_wp2
 go_ret
 exact ⟨rfl, HB1.out⟩
set_option maxRecDepth 100000 in
set_option maxHeartbeats 4000000 in
theorem leaseErase_ok (s : ByteArray) (w : World) (hs : s.size ≤ 9000) (htab : Lib.TabIs Tryz.prog w "internal/strconv.uint64pow10" .u64 Lib.pow10Tab) (e : PT) (hp : PE true (tokens s.data.toList) e []) :
  Calls Tryz.prog 18 #[.string s] w fun v w' => v = .returned (.tuple #[.string (bs e.ptx), .int .i64 0]) ∧ Below w.heap.size w w' := by
 have hpp := parsePlaced_tree s w hs e hp
 have hcnt := Study_len hp
 have hta := (hp.tame (tokens_tame _)).1
 have hwf := hp.wf
 have hpl : ∀ (w1 : World) (x1 : Option Addr) (n1 c1 : Nat) (x2 : Option Addr) (n2 c2 : Nat) (ns : List NR), Below w.heap.size w w1 → TreeIn w1 (.slice x1 n1 c1) (.slice x2 n2 c2) ns (opn e 0) → NA [] e 0 ns → Calls Tryz.prog 37 #[treeV (.slice x1 n1 c1) (.slice x2 n2 c2)] w1 fun v w' => v = .returned (.string (bs e.ptx)) ∧ Below w1.heap.size w1 w' :=
  fun w1 x1 n1 c1 x2 n2 c2 ns hb hT hna => Plain_any w1 x1 n1 c1 x2 n2 c2 ns (opn e 0) e hT (Lib.tabBelow_of_tabIs htab w1 hb) hna.shows0 hta hwf hna.len.symm (by rw [hna.len]; omega)
 unfold treeV at hpl hpp
 have HPL : Hid _ := hpl
 clear hpl hta hwf hp htab hcnt
 go_enter Tryz.func18, Tryz.ntmps18
 go_wp2_with fail
 refine hpp.mono ?_
 rintro _ w1 ⟨x1, n1, c1, x2, n2, c2, ns, rfl, hb, hT, hna⟩
 have HB : Hid _ := hb.alloc hb.size (.cells #[.slice x1 n1 c1, .slice x2 n2 c2] 62)
 have HT : Hid _ := hT.below ((Below.refl _ w1).alloc (Nat.le_refl _) (.cells #[.slice x1 n1 c1, .slice x2 n2 c2] 62))
 have HNA : Hid _ := hna
 clear hb hT hna hpp
 go_wp2_with fail
 refine (HPL.out _ x1 n1 c1 x2 n2 c2 ns HB.out HT.out HNA.out).mono ?_
 rintro _ w2 ⟨rfl, hb2⟩
 have HB2 : Hid _ := HB.out.trans (hb2.mono HB.out.size)
 clear hb2 HPL HB HT HNA
 go_wp2
 refine bodyPost_ret (v := .tuple #[.string (bs e.ptx), .int .i64 0]) (by simp [results, Tryz.results18, go_sem]) rfl ⟨rfl, HB2.out⟩
end Go.Proofs.YtpicaknklgccoabGreatDoor
namespace Go.Proofs.YtpicaknklgccoabGreatDoor
open Go.RowKit
open Go.Lib (decDigits)
theorem safe_ans {R : Vl × ESt} {v : Value} {E c : Nat} (hc : c = 0 ∨ c = 7 ∨ c = 8 ∨ c = 9 ∨ c = 10) (h : RunAns R v E) (h13 : c = 0 → E ≠ 13) : SafeAns v (evalV R) E (decide (R.2.e = 0)) c := by
 refine ⟨hc, ?_⟩
 rcases h with ⟨hE, hv⟩ | ⟨h12, hE, hv⟩ | ⟨h0, hE, c', d', hv⟩
 ·exact Or.inl ⟨hE, fun h => h13 h hE, hv, evalV_agg R⟩
 ·refine Or.inr (Or.inl ⟨hE, by rw [h12]; rfl, hv, ?_⟩)
  unfold evalV
  rw [if_pos (by rw [h12]; decide)]
  rfl
 ·refine Or.inr (Or.inr ⟨hE, by rw [h0]; rfl, bs R.1.txt, R.2.steps, R.2.cells, c', d', R.2.cells, R.2.cells, hv, ?_⟩)
  unfold evalV
  rw [if_neg (fun h => h h0)]
  rfl
theorem Safe_any (t fuel : Int) (rv mv : Value) (raw marks : List Int) (w : World) (ht : I64 t) (hfu : I64 fuel) (h : RawIn w rv raw) (hm : RawIn w mv marks) (htab : Lib.TabIs Tryz.prog w "internal/strconv.uint64pow10" .u64 Lib.pow10Tab) :
  Calls Tryz.prog 6 #[.int .i64 t, rv, mv, .int .i64 fuel] w fun v w' => v = .returned (.bool true) ∧ Below w.heap.size w w' := by
 obtain ⟨ra, rn, rc, rfl⟩ : ∃ ra rn rc, rv = .slice ra rn rc := by
  rcases h.2 with ⟨h1, _⟩ | ⟨a, cap, h1, _, _⟩
  ·exact ⟨_, _, _, h1⟩
  ·exact ⟨_, _, _, h1⟩
 obtain ⟨ma, mn, mc, rfl⟩ : ∃ ra rn rc, mv = .slice ra rn rc := by
  rcases hm.2 with ⟨h1, _⟩ | ⟨a, cap, h1, _, _⟩
  ·exact ⟨_, _, _, h1⟩
  ·exact ⟨_, _, _, h1⟩
 have hbd := build_any w t (.slice ra rn rc) raw ht h
 obtain ⟨hKT, hlen, hprs, hcnt⟩ := build_ok t raw
 generalize buildF t raw = x at *
 have hn := pickF_lt fuel 20001 (by omega)
 have hpk := fun W => pick_any fuel 20001 W hfu (by omega) (by omega)
 generalize pickF fuel 20001 = f at *
 obtain ⟨s0, hs0⟩ : ∃ s0 : MkS, s0 = ⟨0, 0, []⟩ := ⟨_, rfl⟩
 have hs0a : s0.at_ = 0 := by rw [hs0]
 have A := any_ok marks hKT (by simp) s0
 have hat := anyF_at marks x s0
 obtain ⟨e, hpe, hchk, hwt, hev, hptx⟩ := any_PE marks s0 hKT (by omega)
 have hql : (anyF marks x s0).1.tidy.length ≤ 9000 := by have := A.len; omega
 obtain ⟨q, hq⟩ : ∃ q, q = bs (anyF marks x s0).1.tidy := ⟨_, rfl⟩
 have hqd : q.data.toList = (anyF marks x s0).1.tidy := by rw [hq]; simp [bs]
 have hqs : q.size ≤ 9000 := by rw [hq, bs_size]; exact hql
 rw [← hqd] at hpe
 have hit : ∀ W, Below w.heap.size w W → ItoaOk W := fun W hW => by
  intro n W' hn hW'
  exact itoa_ok w htab n W' hn (hW.trans (hW'.mono hW.size))
 obtain ⟨c, a, hc, hc0, hVe⟩ := leaseVet_placed q hqs e _ hpe hchk hwt
 obtain ⟨v, E, hans, h13, hRu⟩ := leaseRun_placed q hqs e _ hpe hchk hwt (by have := tyZ_size (pickF t 5); omega) f (by omega)
 rw [hev] at hans
 obtain ⟨R, hR⟩ : ∃ R, R = ev f (x.pt []) [] ⟨0, 0, 0⟩ := ⟨_, rfl⟩
 rw [← hR] at hans
 have htx := ktext_any [] hKT (by simp)
 have hplen := pt_len (rg := []) hKT
 have hpl2 : x.prs * (([] : List UInt8).length + 1) ≤ 75 := by simp; exact hprs
 refine Safe_walk t fuel ra rn rc ma mn mc w x f q (bs (x.pt []).tidy) v (evalV R) E (decide (R.2.e = 0)) c a (safe_ans hc hans (fun h => ?_)) hbd (fun W p hW hk => ?_) hpk (fun W hW => ?_) hVe (fun W hW => hRu W (Lib.tabBelow_of_tabIs htab W hW)) (fun W p hW hk => ?_) (fun W p hW hk => ?_)
 ·obtain ⟨T', hw⟩ := hc0 h
  exact h13 T' hw
 ·have hob : MkIn W (W.alloc (.cells (mkCells (.slice ma mn mc) ⟨0, 0, []⟩ (.slice none 0 0)) 49 (0, 0))) W.heap.size (.slice ma mn mc) marks ⟨0, 0, []⟩ (.slice none 0 0) :=
   ⟨hm.below hW, ⟨below_alZ (Below.refl _ W) _, Nat.le_refl _, blk_new _ _, World.ownsRow_nil _ _ _ _, by simp [Value.ownBlock]⟩⟩
  have hfb : ∀ W', Below W.heap.size W W' → ItoaOk W' := fun W' hW' => hit W' (hW.trans (hW'.mono hW.size))
  rw [hs0] at hql hat hq
  refine Calls.mono (anyw_any marks hKT (by simp) W _ W.heap.size p _ _ ⟨0, 0, []⟩ hob hk (by omega) (by simp only at hat; omega) hfb) ?_
  rintro _ w' ⟨rfl, hm'⟩
  exact ⟨by rw [hq], hm'.ob.b0⟩
 ·have := leaseErase_ok q W hqs (Lib.tabBelow_of_tabIs htab W hW) e hpe
  rw [hptx] at this
  exact this
 ·exact worked_any W x _ p f (by omega) hKT hk (fun W' hW' => hit W' (hW.trans (hW'.mono hW.size))) R hR
 ·exact htx p W hk (by omega) (fun W' hW' => hit W' (hW.trans (hW'.mono hW.size)))
end Go.Proofs.YtpicaknklgccoabGreatDoor
