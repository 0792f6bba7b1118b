import Derived.Test.YtpicaknklgccoaaGreatDoorP31
namespace Go.Proofs.YtpicaknklgccoaaGreatDoor
open Go.RowKit
set_option maxRecDepth 100000 in
set_option maxHeartbeats 2000000 in
theorem fm_form (L : Ly) (hlo : ∀ i, -1 ≤ rgV L.regs i) (wb : Nat) (x1 : Option Addr) (n1 c1 : Nat) (x2 : Option Addr) (n2 c2 : Nat) (ns : List NR) (op : List Int) (p : Nat) (k : Kw) (nm rg : List UInt8) (kids : List PT) (hkn : k ≠ .new) (ih : ∀ x ∈ kids, ExpOk L wb (.slice x1 n1 c1) (.slice x2 n2 c2) ns op x) : FmOk L wb (.slice x1 n1 c1) (.slice x2 n2 c2) ns op (.node p k nm rg kids) := by
 intro base w v tx hsh hta hwf hle hlim hin henv
 simp only [Shows] at hsh
 obtain ⟨⟨n, hn, hf, hwd, hp0, hp1, hp2⟩, hks⟩ := hsh
 simp only [PT.tame] at hta
 simp only [PT.wf] at hwf
 simp only [PT.cnt] at hle hlim
 have har : kids.length ≤ 3 := by rw [hwf.1]; cases k <;> decide
 have hno := Node_in' w (.slice x1 n1 c1) (.slice x2 n2 c2) ns op (henv.tree w (Below.refl _ _)) (base + cntL kids) n hn henv.len
 have hb := hin.blk
 have hbl := henv.len
 have y0 : w.cell? ⟨wb, 0, none⟩ = some (.slice x1 n1 c1) := by rw [blk_cell hb]; rfl
 have y1 : w.cell? ⟨wb, 1, none⟩ = some (.slice x2 n2 c2) := by rw [blk_cell hb]; rfl
 have hlay := fun (w' : World) (hb : Below w.heap.size w w') => henv.lay w' (hb.mono (Nat.le_of_lt (blk_lt hin.blk)))
 have hrg := fun (w' : World) (hb : Below w.heap.size w w') => Region_any w' L (hlay w' hb) henv.rl (base + cntL kids) (by have := henv.len; omega)
 obtain ⟨a0, e0, hlr⟩ := slice_any (hlay w (Below.refl _ _)).r
 obtain ⟨a1, e1, hla⟩ := slice_any (hlay w (Below.refl _ _)).a
 rw [hlr, hla] at hrg
 have hcall := fun w' (h1 : WIn L wb w' (.slice x1 n1 c1) (.slice x2 n2 c2) v tx) (h2 : WEnv L wb w' (.slice x1 n1 c1) (.slice x2 n2 c2) ns op) =>
  wbracket_any L wb x1 n1 c1 x2 n2 c2 ns op k nm kids hkn har ih base w' v tx n hf hwd hp0 hp1 hp2 hks hta.1 hta.2 hwf.2 (by omega) hlim (base + cntL kids) (hlo _) h1 h2
 rw [accW_end L.regs L.news p k nm rg kids base hkn] at hcall
 have q1 : ((n.form : Int) == 1) = false := ibeq_false (b := 1) (by rw [hf]; cases k <;> decide)
 have q2 : ((n.form : Int) == 2) = false := ibeq_false (b := 2) (by rw [hf]; cases k <;> decide)
 have q12 : ((n.form : Int) == 12) = false := ibeq_false (b := 12) (by rw [hf]; cases k <;> first | decide | exact absurd rfl hkn)
 unfold nrVal at hcall
 have HC : Hid _ := hcall
 have HIN : Hid _ := hin
 have HENV : Hid _ := henv
 have hlt := blk_lt hb
 unfold treeV nrVal at hno
 simp only [PT.cnt]
 rw [show (((base + (1 + cntL kids) : Nat) : Int) - 1) = ((base + cntL kids : Nat) : Int) from by omega]
 generalize (PT.node p k nm rg kids).ftx L.regs L.news base = px at *
 generalize rgV L.regs (base + cntL kids) = R at *
 generalize base + cntL kids = K at *
 clear hlay hb hin henv hcall hn hf hwd hp0 hp1 hp2 hks ih hta hwf hlim hle
 go_enter Tryz.func110, Tryz.ntmps110
 go_wp2_with fail
 refine Calls.mono hno ?_
 rintro _ w1 ⟨rfl, hb1⟩
 have hs1 := hb1.size
 have hB0 := hb1.alloc hb1.size (nrO n)
 have hwl : wb < w1.heap.size := by omega
 have hwn : wb ≠ w1.heap.size := by omega
 have y2 : w1.cell? ⟨wb, 2, none⟩ = some (.slice a0 L.regs.length e0) := by rw [blk_cell (HIN.out.below hb1).blk, ← hlr]; rfl
 have y3 : w1.cell? ⟨wb, 3, none⟩ = some (.slice a1 L.news.length e1) := by rw [blk_cell (HIN.out.below hb1).blk, ← hla]; rfl
 go_wp2_with fail
 refine (hrg _ hB0).mono ?_
 rintro _ w2 ⟨rfl, hb2⟩
 have hB : Below w.heap.size w w2 := hB0.trans (hb2.mono hB0.size)
 have hnb : w2.heap[w1.heap.size]? = some (nrO n) := by rw [hb2.block _ (by simp)]; exact blk_new _ _
 obtain ⟨d0, d1, d2, d3, d4, d5, d6, d7, d8, d9⟩ := nr_cells10 hnb
 have hnl := blk_lt hnb
 clear hb2 hnb
 go_wp2_with fail
 refine (HC.out _ (HIN.out.below hB) (HENV.out.on (hB.mono (Nat.le_of_lt hlt)))).mono ?_
 rintro _ w3 ⟨v', rfl, hfr, hin'⟩
 go_wp2_with fail
 refine bodyPost_end (v := .tuple #[]) (by simp [results, Tryz.results110, go_sem]) rfl ⟨v', rfl, (WFr.of_below v hB).trans hfr, hin'⟩
theorem exp_any (L : Ly) (hlo : ∀ i, -1 ≤ rgV L.regs i) (wb : Nat) (x1 : Option Addr) (n1 c1 : Nat) (x2 : Option Addr) (n2 c2 : Nat) (ns : List NR) (op : List Int) (t : PT) : t.wf → ExpOk L wb (.slice x1 n1 c1) (.slice x2 n2 c2) ns op t := by
 induction t using PT.ind with
 | h1 p s => exact fun _ => exp_of L _ _ _ _ _ _ (fm_num L wb x1 n1 c1 x2 n2 c2 ns op p s)
 | h2 p s => exact fun _ => exp_of L _ _ _ _ _ _ (fm_name L wb x1 n1 c1 x2 n2 c2 ns op p s)
 | h3 p k nm rg kids ih =>
  intro hwf
  simp only [PT.wf] at hwf
  have ih' : ∀ x ∈ kids, ExpOk L wb (.slice x1 n1 c1) (.slice x2 n2 c2) ns op x := fun x hx => ih x hx (wfL_mem hwf.2 x hx)
  by_cases hk : k = .new
  ·subst hk
   match kids, hwf.1, ih' with
   | [x], _, ih' => exact exp_of L _ _ _ _ _ _ (fm_new L wb x1 n1 c1 x2 n2 c2 ns op p nm rg x (ih' x (by simp)))
  ·exact exp_of L _ _ _ _ _ _ (fm_form L hlo wb x1 n1 c1 x2 n2 c2 ns op p k nm rg kids hk ih')
open Go.Lib (strCells)
theorem Tryz.undU8 : Tryz.prog.underlying 5 = some (.int .u8) := by kernel_rfl
theorem conv_row (w : World) (base : Nat) (v : Value) (tx : List UInt8) (h : w.ownsRow base 5 1 v tx.length (strCells (bs tx))) : (convert 121 9 v).run Tryz.prog w = .ok (.string (bs tx)) w := by
 rcases h.2 with ⟨h1, h2⟩ | ⟨g, cap, cur, h1, _⟩
 ·obtain rfl : tx = [] := List.eq_nil_of_length_eq_zero h2
  subst h1
  exact Lib.run_convert_nil_bytes w _ _ _ 0 Tryz.undBytes Tryz.undU8 Tryz.undStr
 ·subst h1
  have hc : Lib.Bytes w g 0 (bs tx) := by
   intro i hi
   rw [Nat.zero_add, h.cellAt i (by rw [bs_size] at hi; omega)]
   have hi' : i < tx.length := by rw [bs_size] at hi; exact hi
   simp [strCells, bs, hi']
   rfl
  have := Lib.run_convert_whole (P := Tryz.prog) w _ _ _ Tryz.undBytes Tryz.undU8 Tryz.undStr g 0 (bs tx) hc cap
  rw [bs_size] at this
  exact this
abbrev bxT (x1 : Option Addr) (n1 c1 : Nat) (x2 : Option Addr) (n2 c2 : Nat) : Obj := .cells #[.slice x1 n1 c1, .slice x2 n2 c2] 59
abbrev bxL (y1 : Option Addr) (m1 d1 : Nat) (y2 : Option Addr) (m2 d2 : Nat) : Obj := .cells #[.slice y1 m1 d1, .slice y2 m2 d2] 73
abbrev bxW (x1 : Option Addr) (n1 c1 : Nat) (x2 : Option Addr) (n2 c2 : Nat) (y1 : Option Addr) (m1 d1 : Nat) (y2 : Option Addr) (m2 d2 : Nat) : Obj := .cells #[.slice x1 n1 c1, .slice x2 n2 c2, .slice y1 m1 d1, .slice y2 m2 d2, .slice none 0 0] 123
set_option maxRecDepth 100000 in
set_option maxHeartbeats 4000000 in
theorem Placed_any (w : World) (y1 : Option Addr) (m1 d1 : Nat) (y2 : Option Addr) (m2 d2 : Nat) (regs news : List Int) (hL : LyIn w ⟨.slice y1 m1 d1, .slice y2 m2 d2, regs, news⟩) (hbd : LyB regs news) (hlo : ∀ i, -1 ≤ rgV regs i) (hrl : regs.length ≤ 9000) (x1 : Option Addr) (n1 c1 : Nat) (x2 : Option Addr) (n2 c2 : Nat) (ns : List NR) (op : List Int) (t : PT) (hT : TreeIn w (.slice x1 n1 c1) (.slice x2 n2 c2) ns op) (htab : Lib.TabIs Tryz.prog w "internal/strconv.uint64pow10" .u64 Lib.pow10Tab)
  (hsh : Shows ns t 0) (hta : t.tame) (hwf : t.wf) (hcnt : t.cnt = ns.length) (hl : ns.length ≤ 9000) :
  Calls Tryz.prog 36 #[treeV (.slice x1 n1 c1) (.slice x2 n2 c2), .agg #[.slice y1 m1 d1, .slice y2 m2 d2]] w fun v w' => v = .returned (.string (bs (t.wtx regs news 0))) ∧ Below w.heap.size w w' := by
 have hA : Below w.heap.size w ((w.alloc (bxT x1 n1 c1 x2 n2 c2)).alloc (bxL y1 m1 d1 y2 m2 d2)) := ((Below.refl _ _).alloc (Nat.le_refl _) _).alloc (by simp) _
 have hB : Below w.heap.size w (((w.alloc (bxT x1 n1 c1 x2 n2 c2)).alloc (bxL y1 m1 d1 y2 m2 d2)).alloc (bxW x1 n1 c1 x2 n2 c2 y1 m1 d1 y2 m2 d2)) := hA.alloc (by simp; omega) _
 have hin : WIn ⟨.slice y1 m1 d1, .slice y2 m2 d2, regs, news⟩ (w.heap.size + 2) (((w.alloc (bxT x1 n1 c1 x2 n2 c2)).alloc (bxL y1 m1 d1 y2 m2 d2)).alloc (bxW x1 n1 c1 x2 n2 c2 y1 m1 d1 y2 m2 d2)) (.slice x1 n1 c1) (.slice x2 n2 c2) (.slice none 0 0) [] :=
  ⟨by have := blk_new ((w.alloc (bxT x1 n1 c1 x2 n2 c2)).alloc (bxL y1 m1 d1 y2 m2 d2)) (bxW x1 n1 c1 x2 n2 c2 y1 m1 d1 y2 m2 d2); simpa using this, World.ownsRow_nil _ _ _ _⟩
 have henv : WEnv ⟨.slice y1 m1 d1, .slice y2 m2 d2, regs, news⟩ (w.heap.size + 2) (((w.alloc (bxT x1 n1 c1 x2 n2 c2)).alloc (bxL y1 m1 d1 y2 m2 d2)).alloc (bxW x1 n1 c1 x2 n2 c2 y1 m1 d1 y2 m2 d2)) (.slice x1 n1 c1) (.slice x2 n2 c2) ns op :=
  ⟨fun w' h' => hT.below (hB.trans (h'.mono (by omega))), fun w' h' => Lib.tabBelow_of_tabIs htab w' (hB.trans (h'.mono (by omega))), hl, fun w' h' => hL.below (hB.trans (h'.mono (by omega))), hbd, hrl⟩
 have hro := fun w' (h : Below w.heap.size w w') => Root_any w' _ _ ns op (hT.below h) hl
 have hex := fun w' h1 h2 => exp_any ⟨.slice y1 m1 d1, .slice y2 m2 d2, regs, news⟩ hlo (w.heap.size + 2) x1 n1 c1 x2 n2 c2 ns op t hwf 0 w' (.slice none 0 0) [] hsh hta hwf (by omega) (by simp; omega) h1 h2
 rw [Nat.zero_add, hcnt] at hex
 simp only [List.nil_append] at hex
 unfold treeV at hro
 have HRO : Hid _ := hro
 have HEX : Hid _ := hex
 have HIN : Hid _ := hin
 have HENV : Hid _ := henv
 have HB : Hid _ := hB
 clear hro hex hin henv hA hL hbd hlo hT htab hsh hta hwf hcnt hB
 unfold treeV
 go_enter Tryz.func36, Tryz.ntmps36
 go_wp2_with fail
 refine (HRO.out _ HB.out).mono ?_
 rintro _ w1 ⟨rfl, hb1⟩
 have HB1 : Hid _ := hb1
 clear hb1
 go_wp2_with fail
 refine (HEX.out _ (HIN.out.below HB1.out) (HENV.out.on (HB1.out.mono (by simp)))).mono ?_
 rintro _ w2 ⟨v', rfl, hfr, hin'⟩
 have hb2 : Below w.heap.size w w2 := HB.out.trans (((HB1.out.mono (by simp)).trans ((HIN.out.below HB1.out).fr hfr)).mono (by omega))
 obtain ⟨xa, xc, hv⟩ := slice_any hin'.row
 subst hv
 have y2 : w2.cell? ⟨w.heap.size + 2, 4, none⟩ = some (.slice xa (t.wtx regs news 0).length xc) := by rw [blk_cell hin'.blk]; rfl
 have hcv := conv_row w2 _ _ _ hin'.row
 have HB2 : Hid _ := hb2
 clear hfr hin' hb2 HEX HIN HENV HRO HB1 HB
 go_wp2
 go_ret
 exact ⟨rfl, HB2.out⟩
set_option maxRecDepth 100000 in
set_option maxHeartbeats 8000000 in
theorem pProgram_any (w : World) (x1 : Option Addr) (n1 c1 : Nat) (x2 : Option Addr) (n2 c2 : Nat) (ns : List NR) (op : List Int) (hT : TreeIn w (.slice x1 n1 c1) (.slice x2 n2 c2) ns op) (ho : OpOk ns op) (hl : ns.length ≤ 9000) (hsm : ∀ n ∈ ns, n.small) (n0 : NR) (h0 : ns[ns.length - 1]? = some n0) (hB : n0.beh ≤ 9000) (hat : ∀ n ∈ ns, n.at_ < n0.beh) (hsz : SzOk [] (ns.map atR)) (E fs : List Nat) (hE : E = shE [] (List.range n0.beh) ns) (hfs : fs = firstsL E (opNs ns op))
  (ns2 : List NR) (h2 : ∀ (k : Nat) n r, ns[k]? = some n → (regsL E fs ns)[k]? = some r → ns2.drop k = setR n r :: ns2.drop (k + 1) ∧ (n.form = 4 → 0 ≤ r)) (h2l : ns2.length = ns.length) (hsz2 : SzOk [] ns2) :
  Calls Tryz.prog 35 #[treeV (.slice x1 n1 c1) (.slice x2 n2 c2)] w fun e w' => ∃ y1 m1 d1 y2 m2 d2, e = .returned (.agg #[.slice y1 m1 d1, .slice y2 m2 d2]) ∧ LyIn w' ⟨.slice y1 m1 d1, .slice y2 m2 d2, regsL E fs ns, newsL (tyRun [] ns2) ns n0 fs.length⟩ ∧ Below w.heap.size w w' := by
 have hrl : (regsL E fs ns).length = ns.length := by unfold regsL; rw [List.length_map]
 have hnl : (newsL (tyRun [] ns2) ns n0 fs.length).length = fs.length := by unfold newsL; rw [List.length_map, List.length_range]
 have hfl : fs.length ≤ 9000 := by have := firstsL_len E (opNs ns op); rw [opNs_len, ho.1] at this; rw [hfs]; omega
 have hre := fun (W : World) (hb : Below w.heap.size w W) => regionsOf_any W x1 n1 c1 x2 n2 c2 ns op (hT.below hb) ho hl hsm n0 h0 hB hat hsz E fs hE hfs
 have hne := fun (W : World) (hb : Below w.heap.size w W) (rv : Value) (hrv : W.ownsRow 0 3 1 rv (regsL E fs ns).length (intVs (regsL E fs ns))) => pnewsOf_any W x1 n1 c1 x2 n2 c2 ns op (hT.below hb) hl hsm n0 h0 rv (regsL E fs ns) hrv hrl fs.length hfl ns2 h2 h2l hsz2
 unfold treeV at hre hne
 unfold treeV
 have HRE : Hid _ := hre
 have HNE : Hid _ := hne
 have HRL : Hid _ := hrl
 have HNL : Hid _ := hnl
 generalize newsL (tyRun [] ns2) ns n0 fs.length = news at *
 generalize regsL E fs ns = regs at *
 generalize fs.length = cn at *
 generalize ns.length = m at *
 clear hre hne hrl hnl hT ho hsm h0 hat hsz hE hfs h2 h2l hsz2
 obtain ⟨WB, hWB⟩ : ∃ WB, WB = (w.alloc (.cells #[.slice x1 n1 c1, .slice x2 n2 c2] 59)).alloc (.cells #[.slice none 0 0, .slice none 0 0] 73) := ⟨_, rfl⟩
 have hBX : Below w.heap.size w WB := by rw [hWB]; exact belY_al (belY_al (Below.refl _ _) _) _
 have hk0 : WB.heap[w.heap.size]? = some (.cells #[.slice x1 n1 c1, .slice x2 n2 c2] 59 (0, 0)) := by
  have h2 := belY_al (Below.refl (w.alloc (.cells #[.slice x1 n1 c1, .slice x2 n2 c2] 59)).heap.size (w.alloc (.cells #[.slice x1 n1 c1, .slice x2 n2 c2] 59))) (.cells #[.slice none 0 0, .slice none 0 0] 73)
  rw [hWB, h2.block _ (by simp)]; exact blk_new _ _
 have hk1 : WB.heap[w.heap.size + 1]? = some (.cells #[.slice none 0 0, .slice none 0 0] 73 (0, 0)) := by
  have := blk_new (w.alloc (.cells #[.slice x1 n1 c1, .slice x2 n2 c2] 59)) (.cells #[.slice none 0 0, .slice none 0 0] 73 (0, 0))
  rw [hWB]; simpa using this
 have HBX : Hid _ := hBX
 have HK0 : Hid _ := hk0
 have HK1 : Hid _ := hk1
 have HWB : Hid _ := hWB
 have hWs : w.heap.size + 1 < WB.heap.size := blk_lt hk1
 clear hBX hk0 hk1 hWB
 go_enter Tryz.func35, Tryz.ntmps35
 go_wp2_with fail
 rw [← HWB.out]
 refine Calls.mono (HRE.out WB HBX.out) ?_
 rintro _ w1 ⟨rv, rfl, hr1, hb1⟩
 have hk := (hb1.block _ (blk_lt HK0.out)).trans HK0.out
 have a0 : w1.cell? ⟨w.heap.size, 0, none⟩ = some (.slice x1 n1 c1) := by rw [blk_cell hk]; rfl
 have a1 : w1.cell? ⟨w.heap.size, 1, none⟩ = some (.slice x2 n2 c2) := by rw [blk_cell hk]; rfl
 have al := blk_lt hk
 have hr1' : w1.ownsRow 0 3 1 rv regs.length (intVs regs) := by rw [HRL.out]; exact owns_base hr1 (fun _ _ => Nat.zero_le _)
 have hnc := HNE.out w1 (HBX.out.trans (hb1.mono HBX.out.size)) rv hr1'
 obtain ⟨y1, d1, hrv⟩ := slice_any hr1
 subst hrv
 have HR1 : Hid _ := hr1
 have HR1' : Hid _ := hr1'
 have HB1 : Hid _ := hb1
 clear hk hr1' hr1 hb1 HRE HNE
 go_wp2_with fail
 refine Calls.mono hnc ?_
 rintro _ w2 ⟨av, rfl, hr2, hb2⟩
 have HR2 : Hid _ := owns_below HR1'.out hb2
 have hB2 := HB1.out.trans (hb2.mono HB1.out.size)
 have hk2 := (hB2.block _ (blk_lt HK1.out)).trans HK1.out
 have r0 : w2.cell? ⟨w.heap.size + 1, 0, none⟩ = some (.slice none 0 0) := by rw [blk_cell hk2]; rfl
 have r1 : w2.cell? ⟨w.heap.size + 1, 1, none⟩ = some (.slice none 0 0) := by rw [blk_cell hk2]; rfl
 have f0 := blk_free hk2 0
 have f1 := blk_free hk2 1
 have rl := blk_lt hk2
 obtain ⟨y2, d2, hav⟩ := slice_any hr2
 subst hav
 have HN2 : Hid _ := hr2
 have HB2 : Hid _ := HBX.out.trans (hB2.mono HBX.out.size)
 have HK2 : Hid _ := hk2
 have hw12 := hb2.size
 have hW1 := HB1.out.size
 clear hb2 hr2 hB2 hk2 hnc a0 a1 al
 go_wp2
 obtain ⟨WF, hWF⟩ : ∃ WF, WF = (w2.setCell ⟨w.heap.size + 1, 0, none⟩ (.slice y1 m d1)).setCell ⟨w.heap.size + 1, 1, none⟩ (.slice y2 cn d2) := ⟨_, rfl⟩
 have hF : WF.heap[w.heap.size + 1]? = some (.cells #[.slice y1 m d1, .slice y2 cn d2] 73 (0, 0)) := by rw [hWF]; exact blk_set (blk_set HK2.out 0 _) 1 _
 have u0 : WF.cell? ⟨w.heap.size + 1, 0, none⟩ = some (.slice y1 m d1) := by rw [blk_cell hF]; rfl
 have u1 : WF.cell? ⟨w.heap.size + 1, 1, none⟩ = some (.slice y2 cn d2) := by rw [blk_cell hF]; rfl
 rw [← hWF]
 refine bodyPost_ret (v := .agg #[.slice y1 m d1, .slice y2 cn d2]) (by simp [results, Tryz.results35, go_sem, u0, u1]) rfl ⟨_, _, _, _, _, _, rfl, ⟨?_, ?_⟩, ?_⟩
 ·rw [hWF]
  refine owns_blk HR2.out (fun k hk => ?_)
  have h1 := (World.ownsRow.lt HR1.out k hk).1
  rw [blk_other _ _ (by simp only; omega), blk_other _ _ (by simp only; omega)]
 ·rw [hWF]
  have hn := owns_base HN2.out (base' := 0) (fun _ _ => Nat.zero_le _)
  simp only
  rw [HNL.out]
  refine owns_blk hn (fun k hk => ?_)
  have h1 := (World.ownsRow.lt HN2.out k hk).1
  rw [blk_other _ _ (by simp only; omega), blk_other _ _ (by simp only; omega)]
 ·rw [hWF]
  exact HB2.out.trans (bel_set (bel_set (Below.refl _ _) (by omega)) (by omega))
open Go.Lib (decDigits)
structure Lay2 (regs news : List Int) (ns : List NR) (T2 : List Ty) : Prop where
 ty : ∀ i n, ns[i]? = some n → knownT T2 (i : Nat) = tyR T2 (setR n (rgV regs i))
 pr : LyT regs ns
 one : ∀ (i : Nat) n, ns[i]? = some n → n.form = 7 ∨ n.form = 11 → knownT T2 n.p1 = knownT T2 n.p2
 nw : ∀ r i : Nat, news[r]? = some (i : Int) → (knownT T2 i).has r = false
theorem at_root {ns pre ks post : List NR} {n : NR} (h : ns = pre ++ ((ks ++ [n]) ++ post)) : ns[pre.length + ks.length]? = some n := by
 rw [h]
 exact at_mid pre _ post ks.length n (by rw [List.getElem?_append_right (Nat.le_refl _), Nat.sub_self]; rfl)
theorem idx_cnt (b c : Nat) : (((b + (1 + c) : Nat) : Int) - 1) = ((b + c : Nat) : Int) := by omega
theorem knownT_pre {T X : List Ty} {p : Int} (h : p < T.length) : knownT (T ++ X) p = knownT T p := by
 unfold knownT
 split
 ·rw [List.getElem?_append_left (by omega)]
 ·rfl
theorem run_pre : ∀ (ns : List NR) (T : List Ty), ∃ X, tyRun T ns = T ++ X ∧ X.length = ns.length
 | [], T => ⟨[], by simp [tyRun], rfl⟩
 | n :: r, T => by
  obtain ⟨X, h1, h2⟩ := run_pre r (T ++ [tyR T n])
  exact ⟨tyR T n :: X, by simp only [tyRun, h1, List.append_assoc, List.singleton_append], by simp [h2]⟩
def BackN (k : Nat) (n : NR) : Prop := n.p0 < k ∧ n.p1 < k ∧ n.p2 < k ∧ n.source < k
theorem tyR_pre {T X : List Ty} {n : NR} (h : BackN T.length n) : tyR (T ++ X) n = tyR T n := by
 unfold tyR
 rw [knownT_pre h.1, knownT_pre h.2.1, knownT_pre h.2.2.2]
theorem run_fix : ∀ (ns : List NR) (T : List Ty), (∀ (i : Nat) n, ns[i]? = some n → BackN (T.length + i) n) → ∀ (i : Nat) n, ns[i]? = some n → knownT (tyRun T ns) ((T.length + i : Nat) : Int) = tyR (tyRun T ns) n
 | [], _, _, i, n, h => by simp at h
 | m :: r, T, hb, i, n, h => by
  simp only [tyRun]
  cases i with
  | zero =>
   simp only [List.getElem?_cons_zero, Option.some.injEq] at h
   subst h
   obtain ⟨X, h1, _⟩ := run_pre r (T ++ [tyR T m])
   have hbm : BackN T.length m := by simpa using hb 0 m (by simp)
   rw [h1, List.append_assoc, tyR_pre hbm]
   unfold knownT
   rw [if_pos (by omega), Int.toNat_natCast, Nat.add_zero, List.getElem?_append_right (Nat.le_refl _), Nat.sub_self]; rfl
  | succ j =>
   have := run_fix r (T ++ [tyR T m]) (fun k x hx => by have := hb (k + 1) x (by simpa using hx); rw [List.length_append, List.length_singleton]; rwa [show T.length + 1 + k = T.length + (k + 1) by omega]) j n (by simpa using h)
   rw [List.length_append, List.length_singleton, show T.length + 1 + j = T.length + (j + 1) by omega] at this
   exact this
theorem alike_rec : ∀ (ns : List NR) (T : List Ty), (∀ (i : Nat) n, ns[i]? = some n → BackN (T.length + i) n) → (∀ (i : Nat) n, ns[i]? = some n → n.form = 7 ∨ n.form = 11 → (knownT (tyRun T ns) n.p1).bare = (knownT (tyRun T ns) n.p2).bare) → AlikeT T ns
 | [], _, _, _ => trivial
 | m :: r, T, hb, ha => by
  obtain ⟨X, h1, _⟩ := run_pre r (T ++ [tyR T m])
  have hbm : BackN T.length m := by simpa using hb 0 m (by simp)
  simp only [AlikeT]
  refine ⟨fun hf => ?_, alike_rec r _ (fun k x hx => ?_) (fun k x hx => ?_)⟩
  ·have := ha 0 m (by simp) hf
   simp only [tyRun] at this
   rw [h1, List.append_assoc, knownT_pre hbm.2.1, knownT_pre hbm.2.2.1] at this
   rw [knownT_pre hbm.2.1, knownT_pre hbm.2.2.1]; exact this
  ·have := hb (k + 1) x (by simpa using hx)
   rw [List.length_append, List.length_singleton, show T.length + 1 + k = T.length + (k + 1) by omega]; exact this
  ·have := ha (k + 1) x (by simpa using hx)
   simp only [tyRun] at this; exact this
theorem one_rec (c : Nat → Nat) : ∀ (ns : List NR) (T : List Ty), (∀ (i : Nat) n, ns[i]? = some n → BackN (T.length + i) n) → OneT c T ns → ∀ (i : Nat) n, ns[i]? = some n → n.form = 7 ∨ n.form = 11 → mapT c (knownT (tyRun T ns) n.p1) = mapT c (knownT (tyRun T ns) n.p2)
 | [], _, _, _, i, n, h => by simp at h
 | m :: r, T, hb, ho, i, n, h => by
  obtain ⟨X, h1, _⟩ := run_pre r (T ++ [tyR T m])
  have hbm : BackN T.length m := by simpa using hb 0 m (by simp)
  simp only [OneT] at ho
  simp only [tyRun]
  cases i with
  | zero =>
   simp only [List.getElem?_cons_zero, Option.some.injEq] at h
   subst h
   intro hf
   have := ho.1 hf
   rw [knownT_pre hbm.2.1, knownT_pre hbm.2.2.1] at this
   rw [h1, List.append_assoc, knownT_pre hbm.2.1, knownT_pre hbm.2.2.1]; exact this
  | succ j =>
   exact one_rec c r _ (fun k x hx => by have := hb (k + 1) x (by simpa using hx); rw [List.length_append, List.length_singleton, show T.length + 1 + k = T.length + (k + 1) by omega]; exact this) ho.2 j n (by simpa using h)
theorem sz_rec : ∀ (ns : List NR) (T : List Ty), (∀ (i : Nat) n, ns[i]? = some n → BackN (T.length + i) n) → (∀ (i : Nat) n, ns[i]? = some n → n.form = 4 → (Ty.p 0 (knownT (tyRun T ns) n.p0) (knownT (tyRun T ns) n.p1)).size ≤ 63) → SzOk T ns
 | [], _, _, _ => trivial
 | m :: r, T, hb, ha => by
  obtain ⟨X, h1, _⟩ := run_pre r (T ++ [tyR T m])
  have hbm : BackN T.length m := by simpa using hb 0 m (by simp)
  simp only [SzOk]
  refine ⟨fun hf => ?_, sz_rec r _ (fun k x hx => ?_) (fun k x hx => ?_)⟩
  ·have := ha 0 m (by simp) hf
   simp only [tyRun] at this
   rw [h1, List.append_assoc, knownT_pre hbm.1, knownT_pre hbm.2.1] at this
   exact this
  ·have := hb (k + 1) x (by simpa using hx)
   rw [List.length_append, List.length_singleton, show T.length + 1 + k = T.length + (k + 1) by omega]; exact this
  ·have := ha (k + 1) x (by simpa using hx)
   simp only [tyRun] at this; exact this
def EnvB (T : List Ty) (G : TEnv) (sc : Sc) : Prop := ∀ s U, look G s = some U → ∃ i : Nat, findS sc s = (i : Int) ∧ (knownT T i).bare = U
theorem EnvB.snoc {T : List Ty} {G : TEnv} {sc : Sc} {nm : List UInt8} {U : Ty} {z : Int} (h : EnvB T G sc) (hz : 0 ≤ z) (hu : (knownT T z).bare = U) : EnvB T (G ++ [(nm, U)]) (sc ++ [(nm, z)]) := fun s V hs => by
 rw [look_snoc'] at hs
 rw [findS_snocO]
 by_cases e : nm = s
 ·rw [if_pos e] at hs ⊢
  simp only [Option.some.injEq] at hs
  subst hs
  exact ⟨z.toNat, by omega, by rw [Int.toNat_of_nonneg hz]; exact hu⟩
 ·rw [if_neg e] at hs ⊢
  exact h s V hs
def AlkO (T : List Ty) (ns : List NR) (lo hi : Nat) : Prop := ∀ (i : Nat) n, lo ≤ i → i < hi → ns[i]? = some n → (n.form = 7 ∨ n.form = 11 → (knownT T n.p1).bare = (knownT T n.p2).bare) ∧ (n.form = 4 → (Ty.p 0 (knownT T n.p0) (knownT T n.p1)).size ≤ 63)
theorem AlkO.join {T : List Ty} {ns : List NR} {a b c : Nat} (h : AlkO T ns a b) (g : AlkO T ns b c) : AlkO T ns a c := fun i n h1 h2 hn => by
 by_cases e : i < b
 ·exact h i n h1 e hn
 ·exact g i n (by omega) h2 hn
theorem AlkO.root {T : List Ty} {ns : List NR} {k : Nat} {n : NR} (hn : ns[k]? = some n) (h1 : n.form = 7 ∨ n.form = 11 → (knownT T n.p1).bare = (knownT T n.p2).bare) (h2 : n.form = 4 → (Ty.p 0 (knownT T n.p0) (knownT T n.p1)).size ≤ 63) : AlkO T ns k (k + 1) := fun i m a b hm => by
 have : i = k := by omega
 subst this
 rw [hn] at hm
 simp only [Option.some.injEq] at hm
 subst hm
 exact ⟨h1, h2⟩
theorem idx_nn (b : Nat) (t : PT) : (0 : Int) ≤ ((b + t.cnt : Nat) : Int) - 1 := by have := cnt_pos' t; omega
theorem wt_alike {ns : List NR} {T : List Ty} {ρ : Nat → Int} (H : ∀ i n, ns[i]? = some n → knownT T (i : Nat) = tyR T (setR n (ρ i))) {G : TEnv} {e : PT} {U : Ty} (h : WT G e U) : ∀ (sc : Sc) (b : Nat) (pre ms post : List NR), NA sc e b ms → ns = pre ++ (ms ++ post) → pre.length = b → EnvB T G sc →
  (knownT T (((b + e.cnt : Nat) : Int) - 1)).bare = U ∧ AlkO T ns b (b + e.cnt) := by
 induction h with
 | @num G p s =>
  intro sc b pre ms post hna hns hb hE
  simp only [NA] at hna
  subst hna
  have hn := at_root (ks := []) hns
  rw [hb] at hn
  have hty := H _ _ hn
  simp only [List.length_nil, Nat.add_zero] at hn hty
  simp only [PT.cnt, show (((b + 1 : Nat) : Int) - 1) = (b : Int) by omega]
  rw [hty]
  exact ⟨by simp [tyR, setR, Ty.bare], AlkO.root hn (by simp) (by simp)⟩
 | @name G p s U hs =>
  intro sc b pre ms post hna hns hb hE
  simp only [NA] at hna
  subst hna
  have hn := at_root (ks := []) hns
  rw [hb] at hn
  have hty := H _ _ hn
  simp only [List.length_nil, Nat.add_zero] at hn hty
  obtain ⟨i, h1, h2⟩ := hE _ _ hs
  simp only [PT.cnt, show (((b + 1 : Nat) : Int) - 1) = (b : Int) by omega]
  rw [hty]
  exact ⟨by simp [tyR, setR, h1, h2], AlkO.root hn (by simp) (by simp)⟩
 | @let_ G p nm rg a b UA UB ha hb iha ihb =>
  intro sc bs pre ms post hna hns hbs hE
  simp only [NA, bodK, NAs, Bool.false_eq_true, if_false, if_true] at hna
  obtain ⟨ks, beh, ⟨a1, c1, hn1, ⟨a2, c2, hn2, ⟨_, rfl⟩, rfl⟩, rfl⟩, rfl⟩ := hna
  rw [List.append_nil] at hns
  have la := NA.len hn1
  have lb := NA.len hn2
  have hroot := at_root hns
  rw [hbs, List.length_append, la, lb] at hroot
  have hty := H _ _ hroot
  obtain ⟨hba, oa⟩ := iha sc bs pre a1 (a2 ++ ([_] ++ post)) hn1 (by rw [hns]; simp only [List.append_assoc]; rfl) hbs hE
  obtain ⟨hbb, ob⟩ := ihb _ (bs + a.cnt) (pre ++ a1) a2 ([_] ++ post) hn2 (by rw [hns]; simp only [List.append_assoc]; rfl) (by rw [List.length_append, hbs, la]) (hE.snoc (idx_nn bs a) hba)
  simp only [PT.cnt, cntL, Nat.add_zero, idx_cnt]
  refine ⟨?_, ?_⟩
  ·rw [hty]
   simp only [tyR, setR, fk_let, partsL, List.getD_cons_succ, List.getD_cons_zero]
   simpa using hbb
  ·have := (oa.join ob).join (AlkO.root (by rw [Nat.add_assoc]; exact hroot) (by simp [fk_let]) (by simp [fk_let]))
   rwa [show bs + a.cnt + b.cnt + 1 = bs + (1 + (a.cnt + b.cnt)) by omega] at this
 | @pair G p nm rg a b UA UB ha hb hsz iha ihb =>
  intro sc bs pre ms post hna hns hbs hE
  simp only [NA, bodK, NAs, Bool.false_eq_true, if_false] at hna
  obtain ⟨ks, beh, ⟨a1, c1, hn1, ⟨a2, c2, hn2, ⟨_, rfl⟩, rfl⟩, rfl⟩, rfl⟩ := hna
  rw [List.append_nil] at hns
  have la := NA.len hn1
  have lb := NA.len hn2
  have hroot := at_root hns
  rw [hbs, List.length_append, la, lb] at hroot
  have hty := H _ _ hroot
  obtain ⟨hba, oa⟩ := iha sc bs pre a1 (a2 ++ ([_] ++ post)) hn1 (by rw [hns]; simp only [List.append_assoc]; rfl) hbs hE
  obtain ⟨hbb, ob⟩ := ihb sc (bs + a.cnt) (pre ++ a1) a2 ([_] ++ post) hn2 (by rw [hns]; simp only [List.append_assoc]; rfl) (by rw [List.length_append, hbs, la]) hE
  simp only [PT.cnt, cntL, Nat.add_zero, idx_cnt]
  refine ⟨?_, ?_⟩
  ·rw [hty]
   simp only [tyR, setR, fk_pair, partsL, List.getD_cons_succ, List.getD_cons_zero]
   simp only [Nat.reduceEqDiff, if_false, if_true, Ty.bare, hba, hbb]
  ·have hs2 : (Ty.p 0 (knownT T (((bs + a.cnt : Nat) : Int) - 1)) (knownT T (((bs + a.cnt + b.cnt : Nat) : Int) - 1))).size ≤ 63 := by
    rw [← bare_sizeE]
    simp only [Ty.bare, hba, hbb]
    exact hsz
   have := (oa.join ob).join (AlkO.root (by rw [Nat.add_assoc]; exact hroot) (by simp [fk_pair]) (fun _ => by simpa only [partsL, List.getD_cons_succ, List.getD_cons_zero] using hs2))
   rwa [show bs + a.cnt + b.cnt + 1 = bs + (1 + (a.cnt + b.cnt)) by omega] at this
 | @fst G p nm rg a UA UB ha iha =>
  intro sc bs pre ms post hna hns hbs hE
  simp only [NA, bodK, NAs, Bool.false_eq_true, if_false] at hna
  obtain ⟨ks, beh, ⟨a1, c1, hn1, ⟨_, rfl⟩, rfl⟩, rfl⟩ := hna
  rw [List.append_nil] at hns
  have la := NA.len hn1
  have hroot := at_root hns
  rw [hbs, la] at hroot
  have hty := H _ _ hroot
  obtain ⟨hba, oa⟩ := iha sc bs pre a1 ([_] ++ post) hn1 (by rw [hns]; simp only [List.append_assoc]; rfl) hbs hE
  simp only [PT.cnt, cntL, Nat.add_zero, idx_cnt]
  obtain ⟨r, u, v, hp, hu, hv⟩ := bare_pair hba
  refine ⟨?_, ?_⟩
  ·rw [hty]
   simp only [tyR, setR, fk_fst, partsL, List.getD_cons_succ, List.getD_cons_zero]
   simp only [Nat.reduceEqDiff, if_false, if_true]
   rw [hp]; exact hu
  ·have := oa.join (AlkO.root hroot (by simp [fk_fst]) (by simp [fk_fst]))
   rwa [show bs + a.cnt + 1 = bs + (1 + a.cnt) by omega] at this
 | @snd G p nm rg a UA UB ha iha =>
  intro sc bs pre ms post hna hns hbs hE
  simp only [NA, bodK, NAs, Bool.false_eq_true, if_false] at hna
  obtain ⟨ks, beh, ⟨a1, c1, hn1, ⟨_, rfl⟩, rfl⟩, rfl⟩ := hna
  rw [List.append_nil] at hns
  have la := NA.len hn1
  have hroot := at_root hns
  rw [hbs, la] at hroot
  have hty := H _ _ hroot
  obtain ⟨hba, oa⟩ := iha sc bs pre a1 ([_] ++ post) hn1 (by rw [hns]; simp only [List.append_assoc]; rfl) hbs hE
  simp only [PT.cnt, cntL, Nat.add_zero, idx_cnt]
  obtain ⟨r, u, v, hp, hu, hv⟩ := bare_pair hba
  refine ⟨?_, ?_⟩
  ·rw [hty]
   simp only [tyR, setR, fk_snd, partsL, List.getD_cons_succ, List.getD_cons_zero]
   simp only [Nat.reduceEqDiff, if_false, if_true]
   rw [hp]; exact hv
  ·have := oa.join (AlkO.root hroot (by simp [fk_snd]) (by simp [fk_snd]))
   rwa [show bs + a.cnt + 1 = bs + (1 + a.cnt) by omega] at this
 | @if_ G p nm rg a b c U ha hb hc iha ihb ihc =>
  intro sc bs pre ms post hna hns hbs hE
  simp only [NA, bodK, NAs, Bool.false_eq_true, if_false] at hna
  obtain ⟨ks, beh, ⟨a1, c1, hn1, ⟨a2, c2, hn2, ⟨a3, c3, hn3, ⟨_, rfl⟩, rfl⟩, rfl⟩, rfl⟩, rfl⟩ := hna
  rw [List.append_nil] at hns
  have la := NA.len hn1
  have lb := NA.len hn2
  have lc := NA.len hn3
  have hroot := at_root hns
  rw [hbs, List.length_append, List.length_append, la, lb, lc] at hroot
  have hty := H _ _ hroot
  obtain ⟨hba, oa⟩ := iha sc bs pre a1 (a2 ++ (a3 ++ ([_] ++ post))) hn1 (by rw [hns]; simp only [List.append_assoc]; rfl) hbs hE
  obtain ⟨hbb, ob⟩ := ihb sc (bs + a.cnt) (pre ++ a1) a2 (a3 ++ ([_] ++ post)) hn2 (by rw [hns]; simp only [List.append_assoc]; rfl) (by rw [List.length_append, hbs, la]) hE
  obtain ⟨hbc, oc⟩ := ihc sc (bs + a.cnt + b.cnt) (pre ++ a1 ++ a2) a3 ([_] ++ post) hn3 (by rw [hns]; simp only [List.append_assoc]; rfl) (by rw [List.length_append, List.length_append, hbs, la, lb]) hE
  simp only [PT.cnt, cntL, Nat.add_zero, idx_cnt]
  refine ⟨?_, ?_⟩
  ·rw [hty]
   simp only [tyR, setR, fk_if, partsL, List.getD_cons_succ, List.getD_cons_zero]
   simpa using hbb
  ·have := ((oa.join ob).join oc).join (AlkO.root (by rw [Nat.add_assoc, Nat.add_assoc]; exact hroot) (fun _ => by simp only [partsL, List.getD_cons_succ, List.getD_cons_zero]; rw [hbb, hbc]) (by simp [fk_if]))
   rwa [show bs + a.cnt + b.cnt + c.cnt + 1 = bs + (1 + (a.cnt + (b.cnt + c.cnt))) by omega] at this
 | @two G p k nm rg a b hkk ha hb iha ihb =>
  intro sc bs pre ms post hna hns hbs hE
  have hkb : bodK k = [false, false] := by rcases hkk with rfl | rfl | rfl <;> rfl
  have hkf : formK k = 8 ∨ formK k = 9 ∨ formK k = 10 := by rcases hkk with rfl | rfl | rfl <;> decide
  simp only [NA, hkb, NAs, Bool.false_eq_true, if_false] at hna
  obtain ⟨ks, beh, ⟨a1, c1, hn1, ⟨a2, c2, hn2, ⟨_, rfl⟩, rfl⟩, rfl⟩, rfl⟩ := hna
  rw [List.append_nil] at hns
  have la := NA.len hn1
  have lb := NA.len hn2
  have hroot := at_root hns
  rw [hbs, List.length_append, la, lb] at hroot
  have hty := H _ _ hroot
  obtain ⟨hba, oa⟩ := iha sc bs pre a1 (a2 ++ ([_] ++ post)) hn1 (by rw [hns]; simp only [List.append_assoc]; rfl) hbs hE
  obtain ⟨hbb, ob⟩ := ihb sc (bs + a.cnt) (pre ++ a1) a2 ([_] ++ post) hn2 (by rw [hns]; simp only [List.append_assoc]; rfl) (by rw [List.length_append, hbs, la]) hE
  simp only [PT.cnt, cntL, Nat.add_zero, idx_cnt]
  refine ⟨?_, ?_⟩
  ·rw [hty]
   simp only [tyR, setR]
   rcases hkf with h | h | h <;> simp [h, Ty.bare]
  ·have := (oa.join ob).join (AlkO.root (by rw [Nat.add_assoc]; exact hroot) (fun h => by simp only at h; omega) (fun h => by simp only at h; omega))
   rwa [show bs + a.cnt + b.cnt + 1 = bs + (1 + (a.cnt + b.cnt)) by omega] at this
 | @loop G p nm rg a b c U ha hb hc iha ihb ihc =>
  intro sc bs pre ms post hna hns hbs hE
  simp only [NA, bodK, NAs, Bool.false_eq_true, if_false, if_true] at hna
  obtain ⟨ks, beh, ⟨a1, c1, hn1, ⟨a2, c2, hn2, ⟨a3, c3, hn3, ⟨_, rfl⟩, rfl⟩, rfl⟩, rfl⟩, rfl⟩ := hna
  rw [List.append_nil] at hns
  have la := NA.len hn1
  have lb := NA.len hn2
  have lc := NA.len hn3
  have hroot := at_root hns
  rw [hbs, List.length_append, List.length_append, la, lb, lc] at hroot
  have hty := H _ _ hroot
  obtain ⟨hba, oa⟩ := iha sc bs pre a1 (a2 ++ (a3 ++ ([_] ++ post))) hn1 (by rw [hns]; simp only [List.append_assoc]; rfl) hbs hE
  obtain ⟨hbb, ob⟩ := ihb sc (bs + a.cnt) (pre ++ a1) a2 (a3 ++ ([_] ++ post)) hn2 (by rw [hns]; simp only [List.append_assoc]; rfl) (by rw [List.length_append, hbs, la]) hE
  obtain ⟨hbc, oc⟩ := ihc _ (bs + a.cnt + b.cnt) (pre ++ a1 ++ a2) a3 ([_] ++ post) hn3 (by rw [hns]; simp only [List.append_assoc]; rfl) (by rw [List.length_append, List.length_append, hbs, la, lb]) (hE.snoc (idx_nn (bs + a.cnt) b) hbb)
  simp only [PT.cnt, cntL, Nat.add_zero, idx_cnt]
  refine ⟨?_, ?_⟩
  ·rw [hty]
   simp only [tyR, setR, fk_loop, partsL, List.getD_cons_succ, List.getD_cons_zero]
   simpa using hbb
  ·have := ((oa.join ob).join oc).join (AlkO.root (by rw [Nat.add_assoc, Nat.add_assoc]; exact hroot) (fun _ => by simp only [partsL, List.getD_cons_succ, List.getD_cons_zero]; rw [hbb, hbc]) (by simp [fk_loop]))
   rwa [show bs + a.cnt + b.cnt + c.cnt + 1 = bs + (1 + (a.cnt + (b.cnt + c.cnt))) by omega] at this
 | @new G p nm rg a U ha iha =>
  intro sc bs pre ms post hna hns hbs hE
  simp only [NA, bodK, NAs, Bool.false_eq_true, if_false] at hna
  obtain ⟨ks, beh, ⟨a1, c1, hn1, ⟨_, rfl⟩, rfl⟩, rfl⟩ := hna
  rw [List.append_nil] at hns
  have la := NA.len hn1
  have hroot := at_root hns
  rw [hbs, la] at hroot
  have hty := H _ _ hroot
  have hf : formK .new = 12 := by decide
  obtain ⟨hba, oa⟩ := iha sc bs pre a1 ([_] ++ post) hn1 (by rw [hns]; simp only [List.append_assoc]; rfl) hbs hE
  simp only [PT.cnt, cntL, Nat.add_zero, idx_cnt]
  refine ⟨?_, ?_⟩
  ·rw [hty]
   simp only [tyR, setR, hf, partsL, List.getD_cons_zero]
   simpa using hba
  ·have := oa.join (AlkO.root hroot (by simp [hf]) (by simp [hf]))
   rwa [show bs + a.cnt + 1 = bs + (1 + a.cnt) by omega] at this
theorem rgV_regsL (E fs : List Nat) (ns : List NR) (i : Nat) (n : NR) (h : ns[i]? = some n) : rgV (regsL E fs ns) i = if n.form = 4 then idxF fs (fst' E n.at_) else -1 := by
 unfold rgV regsL
 rw [List.getElem?_map, h]; rfl
def rgdN (E fs : List Nat) (ns : List NR) : List NR := ns.map (fun n => setR n (if n.form = 4 then idxF fs (fst' E n.at_) else -1))
theorem aboutF_no (T : List Ty) (rg a b : Nat) : ∀ (l : List NR) (k i : Nat), aboutF T rg a b l k = (i : Int) → (knownT T i).has rg = false
 | [], _, i, h => by simp only [aboutF] at h; omega
 | n :: r, k, i, h => by
  simp only [aboutF] at h
  split at h
  ·rename_i hc
   have : k = i := by omega
   rw [← this]; exact hc.2.2
  ·exact aboutF_no T rg a b r (k + 1) i h
mutual
theorem NA.src : ∀ {scope : Sc} {t : PT} {base : Nat} {ns : List NR}, NA scope t base ns → (∀ x ∈ scope, x.2 < (base : Int)) → ∀ (j : Nat) (n : NR), ns[j]? = some n → n.source < ((base + j : Nat) : Int)
 | _, .num p s, base, ns, h, _, j, n, hn => by
  simp only [NA] at h
  subst h
  have hj : j = 0 := by have := (List.getElem?_eq_some_iff.1 hn).1; simp at this; omega
  subst hj
  simp only [List.getElem?_cons_zero, Option.some.injEq] at hn; subst hn
  simp only; omega
 | scope, .name p s, base, ns, h, hs, j, n, hn => by
  simp only [NA] at h
  subst h
  have hj : j = 0 := by have := (List.getElem?_eq_some_iff.1 hn).1; simp at this; omega
  subst hj
  simp only [List.getElem?_cons_zero, Option.some.injEq] at hn; subst hn
  simp only [Nat.add_zero]
  unfold findS
  split
  ·rename_i x hx
   exact hs x (by have := List.mem_of_find?_eq_some hx; simpa using this)
  ·omega
 | scope, .node p k nm rg kids, base, ns, h, hs, j, n, hn => by
  simp only [NA] at h
  obtain ⟨ks, beh, h1, rfl⟩ := h
  by_cases hj : j < ks.length
  ·rw [List.getElem?_append_left hj] at hn
   exact NAs.src h1 hs j n hn
  ·have hje : j = ks.length := by have := (List.getElem?_eq_some_iff.1 hn).1; simp at this; omega
   rw [List.getElem?_append_right (by omega), hje, Nat.sub_self] at hn
   simp only [List.getElem?_cons_zero, Option.some.injEq] at hn; subst hn
   simp only; omega
theorem NAs.src : ∀ {scope : Sc} {nm : List UInt8} {ts : List PT} {bs : List Bool} {base : Nat} {ns : List NR}, NAs scope nm ts bs base ns → (∀ x ∈ scope, x.2 < (base : Int)) → ∀ (j : Nat) (n : NR), ns[j]? = some n → n.source < ((base + j : Nat) : Int)
 | _, _, [], _, _, _, h, _, j, n, hn => by simp only [NAs] at h; rw [h.2] at hn; simp at hn
 | _, _, _ :: _, [], _, _, h, _, _, _, _ => by simp [NAs] at h
 | scope, nm, t :: r, b :: bs, base, ns, h, hs, j, n, hn => by
  simp only [NAs] at h
  obtain ⟨a, c, h1, h2, rfl⟩ := h
  have hl := NA.len h1
  by_cases hj : j < a.length
  ·rw [List.getElem?_append_left hj] at hn
   refine NA.src h1 (fun x hx => ?_) j n hn
   cases b with
   | false => exact hs x (by simpa using hx)
   | true =>
    simp only [if_true, List.mem_append, List.mem_singleton] at hx
    rcases hx with hx | hx
    ·exact hs x hx
    ·rw [hx]; simp only; omega
  ·rw [List.getElem?_append_right (by omega)] at hn
   have := NAs.src h2 (fun x hx => by have := hs x hx; omega) (j - a.length) n hn
   rw [hl] at this hj
   rw [show base + t.cnt + (j - t.cnt) = base + j from by omega] at this
   exact this
end
theorem na_back {t : PT} {ns : List NR} (h : NA [] t 0 ns) (i : Nat) (n : NR) (hn : ns[i]? = some n) : BackN i n := by
 have h1 := h.back i n hn
 have h2 := h.src (fun x hx => by simp at hx) i n hn
 rw [Nat.zero_add] at h1 h2
 exact ⟨h1.1, h1.2.1, h1.2.2, h2⟩
mutual
theorem opn_all : ∀ (t : PT) (base i : Nat), base ≤ i → i < base + t.cnt → (i : Int) ∈ opn t base
 | .num _ _, base, i, h1, h2 => by simp only [PT.cnt] at h2; simp only [opn, List.mem_singleton]; omega
 | .name _ _, base, i, h1, h2 => by simp only [PT.cnt] at h2; simp only [opn, List.mem_singleton]; omega
 | .node _ _ _ _ kids, base, i, h1, h2 => by
  simp only [PT.cnt] at h2
  simp only [opn, List.mem_cons]
  by_cases h : i = base + cntL kids
  ·exact Or.inl (by rw [h])
  ·exact Or.inr (opnL_all kids base i h1 (by omega))
theorem opnL_all : ∀ (ts : List PT) (base i : Nat), base ≤ i → i < base + cntL ts → (i : Int) ∈ opnL ts base
 | [], base, i, h1, h2 => by simp only [cntL] at h2; omega
 | t :: r, base, i, h1, h2 => by
  simp only [cntL] at h2
  simp only [opnL, List.mem_append]
  by_cases h : i < base + t.cnt
  ·exact Or.inl (opn_all t base i h1 h)
  ·exact Or.inr (opnL_all r (base + t.cnt) i (by omega) (by omega))
end
def AllT (P : Nat → Prop) (t : Ty) : Prop := ∀ r ∈ t.rgl, P r
theorem AllT.p {P : Nat → Prop} {r : Nat} {a b : Ty} (h : AllT P (.p r a b)) : P r ∧ AllT P a ∧ AllT P b :=
 ⟨h r (by simp [Ty.rgl]), fun x hx => h x (by simp [Ty.rgl, hx]), fun x hx => h x (by simp [Ty.rgl, hx])⟩
def KeepP (P : Nat → Prop) (E : List Nat) : Prop := ∀ i, P i → P (fst' E i)
theorem join_keep {P : Nat → Prop} {E : List Nat} (hP : ∀ i, P i → i < E.length) (h : KeepP P E) (x y : Nat) (hx : P x) (hy : P y) : KeepP P (joinF E x y) := fun i hi => by
 rw [fst_join E x y (hP x hx) (hP y hy)]
 unfold mrg
 split
 ·have h1 := h x hx
  have h2 := h y hy
  rcases Nat.le_total (fst' E x) (fst' E y) with e | e
  ·rw [Nat.min_eq_left e]; exact h1
  ·rw [Nat.min_eq_right e]; exact h2
 ·exact h i hi
theorem match_keep {P : Nat → Prop} : ∀ (a b : Ty) (E : List Nat), (∀ i, P i → i < E.length) → KeepP P E → AllT P a → AllT P b → KeepP P (matchT E a b)
 | .n, _, _, _, h, _, _ => by simp only [matchT]; exact h
 | .p _ _ _, .n, _, _, h, _, _ => by simp only [matchT]; exact h
 | .p r a b, .p s c d, E, hP, h, h1, h2 => by
  simp only [matchT]
  split
  ·exact h
  ·obtain ⟨r1, r2, r3⟩ := h1.p
   obtain ⟨s1, s2, s3⟩ := h2.p
   refine match_keep b d _ (by rw [matchT_len, joinF_len]; exact hP) (match_keep a c _ (by rw [joinF_len]; exact hP) (join_keep hP h r s r1 s1) r2 s2) r3 s3
theorem allT_known {P : Nat → Prop} {T : List Ty} (h : ∀ t ∈ T, AllT P t) (i : Int) : AllT P (knownT T i) := by
 unfold knownT
 split
 ·cases e : T[i.toNat]? with
  | none => intro r hr; simp [Ty.rgl] at hr
  | some t => exact h t (List.mem_of_getElem? e)
 ·intro r hr; simp [Ty.rgl] at hr
theorem allT_tyR {P : Nat → Prop} {T : List Ty} (h : ∀ t ∈ T, AllT P t) (m : NR) (hm : m.form = 4 → P m.region.toNat) : AllT P (tyR T m) := by
 have h0 := allT_known h m.p0
 have h1 := allT_known h m.p1
 have h2 := allT_known h m.source
 have hn : AllT P .n := fun r hr => by simp [Ty.rgl] at hr
 unfold tyR
 split
 ·exact h2
 split
 ·exact h0
 split
 ·exact h1
 split
 ·exact h1
 split
 ·exact h1
 split
 ·rename_i h4
  intro r hr
  simp only [Ty.rgl, List.mem_cons, List.mem_append] at hr
  rcases hr with hr | hr | hr
  ·rw [hr]; exact hm h4
  ·exact h0 r hr
  ·exact h1 r hr
 split
 ·cases e : knownT T m.p0 with
  | n => exact hn
  | p r a b => rw [e] at h0; exact h0.p.2.1
 split
 ·cases e : knownT T m.p0 with
  | n => exact hn
  | p r a b => rw [e] at h0; exact h0.p.2.2
 ·exact hn
theorem shE_keep {P : Nat → Prop} : ∀ (ns : List NR) (T : List Ty) (E : List Nat), (∀ i, P i → i < E.length) → KeepP P E → (∀ t ∈ T, AllT P t) → (∀ n ∈ ns, n.form = 4 → P n.at_) → KeepP P (shE T E ns)
 | [], _, _, _, h, _, _ => h
 | n :: r, T, E, hP, h, hT, hn => by
  have hb : ∀ t ∈ T ++ [tyR T (atR n)], AllT P t := fun t ht => by
   rcases List.mem_append.1 ht with ht | ht
   ·exact hT t ht
   ·simp only [List.mem_singleton] at ht; subst ht; exact allT_tyR hT _ (fun h4 => by simpa [atR] using hn n (by simp) h4)
  simp only [shE]
  split
  ·exact shE_keep r _ _ (by rw [matchT_len]; exact hP) (match_keep _ _ E hP h (allT_known hb _) (allT_known hb _)) hb (fun m hm => hn m (by simp [hm]))
  ·exact shE_keep r _ _ hP h hb (fun m hm => hn m (by simp [hm]))
theorem fst_range (B i : Nat) : fst' (List.range B) i = i := by
 rw [fst_step]
 cases h : (List.range B)[i]? with
 | none => rfl
 | some x =>
  have := List.getElem?_eq_some_iff.1 h
  obtain ⟨_, h2⟩ := this
  simp only [List.getElem_range] at h2
  simp only
  rw [if_neg (by omega)]
theorem idxF_mem {row : List Nat} {x : Nat} (h : x ∈ row) : ∃ i : Nat, idxF row x = (i : Int) ∧ i < row.length := by
 unfold idxF
 cases e : row.findIdx? (· == x) with
 | some i => exact ⟨i, rfl, (List.findIdx?_eq_some_iff_getElem.1 e).1⟩
 | none =>
  rw [List.findIdx?_eq_none_iff] at e
  have := e x h
  simp at this
theorem opNs_of {e : PT} {ns : List NR} (h : NA [] e 0 ns) (n : NR) (hn : n ∈ ns) : n ∈ opNs ns (opn e 0) := by
 obtain ⟨i, hi⟩ := List.getElem?_of_mem hn
 have hil := (List.getElem?_eq_some_iff.1 hi).1
 have := opn_all e 0 i (Nat.zero_le _) (by have := h.len; omega)
 unfold opNs
 rw [List.mem_map]
 exact ⟨(i : Int), this, by rw [Int.toNat_natCast, hi]; rfl⟩
theorem lay2_of {e : PT} {U : Ty} {ns : List NR} {n0 : NR} (hwt : WT [] e U) (_hnn : NoNew e) (hna : NA [] e 0 ns) (hat : ∀ n ∈ ns, n.at_ < n0.beh) (hfs : (firstsL (shE [] (List.range n0.beh) ns) (opNs ns (opn e 0))).length ≤ 1000) :
  Lay2 (regsL (shE [] (List.range n0.beh) ns) (firstsL (shE [] (List.range n0.beh) ns) (opNs ns (opn e 0))) ns)
   (newsL (tyRun [] (rgdN (shE [] (List.range n0.beh) ns) (firstsL (shE [] (List.range n0.beh) ns) (opNs ns (opn e 0))) ns)) ns n0 (firstsL (shE [] (List.range n0.beh) ns) (opNs ns (opn e 0))).length)
   ns (tyRun [] (rgdN (shE [] (List.range n0.beh) ns) (firstsL (shE [] (List.range n0.beh) ns) (opNs ns (opn e 0))) ns)) ∧ SzOk [] (ns.map atR) ∧ SzOk [] (rgdN (shE [] (List.range n0.beh) ns) (firstsL (shE [] (List.range n0.beh) ns) (opNs ns (opn e 0))) ns) := by
 have hbk := fun i n hn => na_back hna i n hn
 have hb1 : ∀ (i : Nat) n, (ns.map atR)[i]? = some n → BackN (([] : List Ty).length + i) n := fun i n hn => by
  rw [List.getElem?_map] at hn
  obtain ⟨m, hm, rfl⟩ := Option.map_eq_some_iff.1 hn
  simpa [BackN, atR] using hbk i m hm
 have hfix1 : ∀ i n, ns[i]? = some n → knownT (tyRun [] (ns.map atR)) (i : Nat) = tyR (tyRun [] (ns.map atR)) (setR n (((ns[i]?).map (fun m => (m.at_ : Int))).getD 0)) := fun i n hn => by
  have := run_fix (ns.map atR) [] hb1 i (atR n) (by rw [List.getElem?_map, hn]; rfl)
  rw [List.length_nil, Nat.zero_add] at this
  rw [this, hn]; rfl
 obtain ⟨_, halk⟩ := wt_alike (ρ := fun i => ((ns[i]?).map (fun m => (m.at_ : Int))).getD 0) hfix1 hwt [] 0 [] ns [] hna (by simp) rfl (fun s U h => by simp [look] at h)
 rw [Nat.zero_add, ← hna.len] at halk
 have hal1 : AlikeT [] (ns.map atR) := alike_rec _ _ hb1 (fun i n hn hf => by
  rw [List.getElem?_map] at hn
  obtain ⟨m, hm, rfl⟩ := Option.map_eq_some_iff.1 hn
  exact (halk i m (Nat.zero_le _) (List.getElem?_eq_some_iff.1 hm).1 hm).1 hf)
 have hsz1 : SzOk [] (ns.map atR) := sz_rec _ _ hb1 (fun i n hn hf => by
  rw [List.getElem?_map] at hn
  obtain ⟨m, hm, rfl⟩ := Option.map_eq_some_iff.1 hn
  exact (halk i m (Nat.zero_le _) (List.getElem?_eq_some_iff.1 hm).1 hm).2 hf)
 have hone := shE_one ns [] (List.range n0.beh) (fun t h => by simp at h) (by rw [List.length_range]; exact hat) hal1
 have hkeep : KeepP (fun x => ∃ n ∈ ns, n.form = 4 ∧ n.at_ = x) (shE [] (List.range n0.beh) ns) :=
  shE_keep ns [] (List.range n0.beh) (fun i ⟨n, hn, _, he⟩ => by rw [List.length_range, ← he]; exact hat n hn) (fun i hi => by rw [fst_range]; exact hi) (fun t h => by simp at h) (fun n hn h4 => ⟨n, hn, h4, rfl⟩)
 generalize shE [] (List.range n0.beh) ns = E at *
 have hmem : ∀ n ∈ ns, n.form = 4 → fst' E n.at_ ∈ firstsL E (opNs ns (opn e 0)) := fun n hn h4 => by
  obtain ⟨m, hm, m4, mat⟩ := hkeep n.at_ ⟨n, hn, h4, rfl⟩
  unfold firstsL
  rw [List.mem_map]
  refine ⟨m, List.mem_filter.2 ⟨opNs_of hna m hm, ?_⟩, mat⟩
  rw [mat, fst_idem]
  simp [m4]
 generalize firstsL E (opNs ns (opn e 0)) = fs at *
 obtain ⟨f, hf⟩ : ∃ f : Nat → Nat, f = fun x => (idxF fs (fst' E x)).toNat := ⟨_, rfl⟩
 have hT2 : ∀ (l : List NR) (T : List Ty), tyRun (T.map (mapT f)) (rgdN E fs l) = (tyRun T (l.map atR)).map (mapT f) := fun l => by
  induction l with
  | nil => intro T; simp [rgdN, tyRun]
  | cons n r ih =>
   intro T
   have e1 : tyR (T.map (mapT f)) (setR n (if n.form = 4 then idxF fs (fst' E n.at_) else -1)) = mapT f (tyR T (atR n)) := tyR_map f T (atR n) _ rfl (fun h4 => by
    have h4' : n.form = 4 := h4
    simp only [setR, atR, if_pos h4', Int.toNat_natCast]; rw [hf])
   have ih2 := ih (T ++ [tyR T (atR n)])
   rw [List.map_append, List.map_singleton, ← e1] at ih2
   simp only [rgdN, List.map_cons, tyRun] at ih2 ⊢
   exact ih2
 have hT20 := hT2 ns []
 rw [List.map_nil] at hT20
 have hb2 : ∀ (i : Nat) n, (rgdN E fs ns)[i]? = some n → BackN (([] : List Ty).length + i) n := fun i n hn => by
  unfold rgdN at hn
  rw [List.getElem?_map] at hn
  obtain ⟨m, hm, rfl⟩ := Option.map_eq_some_iff.1 hn
  simpa [BackN, setR] using hbk i m hm
 have hpr : LyT (regsL E fs ns) ns := fun i n hn => by
  rw [rgV_regsL E fs ns i n hn]
  refine ⟨fun h4 => ?_, fun h4 => by rw [if_neg h4]⟩
  obtain ⟨j, hj, hjl⟩ := idxF_mem (hmem n (List.mem_of_getElem? hn) h4)
  rw [if_pos h4, hj]; omega
 have hfix2 : ∀ i n, ns[i]? = some n → knownT (tyRun [] (rgdN E fs ns)) (i : Nat) = tyR (tyRun [] (rgdN E fs ns)) (setR n (rgV (regsL E fs ns) i)) := fun i n hn => by
  have := run_fix (rgdN E fs ns) [] hb2 i (setR n (if n.form = 4 then idxF fs (fst' E n.at_) else -1)) (by unfold rgdN; rw [List.getElem?_map, hn]; rfl)
  rw [List.length_nil, Nat.zero_add] at this
  rw [this, rgV_regsL E fs ns i n hn]
 refine ⟨⟨hfix2, hpr, fun i n hn hfm => ?_, fun r i hr => ?_⟩, hsz1, ?_⟩
 ·have h1 := one_rec (fst' E) (ns.map atR) [] hb1 hone i (atR n) (by rw [List.getElem?_map, hn]; rfl) hfm
  rw [hT20, knownT_map, knownT_map]
  have hc : Coarse (fst' E) f := fun a b hab => by rw [hf]; simp only [hab]
  exact hc.map _ _ h1
 ·unfold newsL at hr
  rw [List.getElem?_map] at hr
  obtain ⟨k, hk, hkr⟩ := Option.map_eq_some_iff.1 hr
  have : k = r := by
   have := (List.getElem?_eq_some_iff.1 hk).2
   simpa using this.symm
  subst this
  exact aboutF_no _ _ _ _ _ _ _ hkr
 ·obtain ⟨_, halk2⟩ := wt_alike (ρ := fun i => rgV (regsL E fs ns) i) hfix2 hwt [] 0 [] ns [] hna (by simp) rfl (fun s U h => by simp [look] at h)
  rw [Nat.zero_add, ← hna.len] at halk2
  exact sz_rec _ _ hb2 (fun i n hn hf4 => by
   unfold rgdN at hn
   rw [List.getElem?_map] at hn
   obtain ⟨m, hm, rfl⟩ := Option.map_eq_some_iff.1 hn
   exact (halk2 i m (Nat.zero_le _) (List.getElem?_eq_some_iff.1 hm).1 hm).2 hf4)
end Go.Proofs.YtpicaknklgccoaaGreatDoor
