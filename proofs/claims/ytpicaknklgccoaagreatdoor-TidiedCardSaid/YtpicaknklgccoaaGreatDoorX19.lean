import Derived.Test.YtpicaknklgccoaaGreatDoorX18
import Derived.Lib.SlBytesRow
import Derived.Lib.BufferRead
namespace Go.Proofs.YtpicaknklgccoaaGreatDoor
open Go.RowKit
set_option maxRecDepth 100000 in
set_option maxHeartbeats 2000000 in
theorem fm_form (L : Ly) (hlo : ∀ i, -1 ≤ rgV L.regs i) (wb : Nat) (x1 : Option Addr) (n1 c1 : Nat) (x2 : Option Addr) (n2 c2 : Nat) (ns : List NR) (op : List Int) (p : Nat) (k : Kw) (nm rg : List UInt8) (kids : List PT) (hkn : k ≠ .new) (ih : ∀ x ∈ kids, ExpOk L wb (.slice x1 n1 c1) (.slice x2 n2 c2) ns op x) : FmOk L wb (.slice x1 n1 c1) (.slice x2 n2 c2) ns op (.node p k nm rg kids) := by
 intro base w v tx hsh hta hwf hle hlim hin henv
 simp only [Shows] at hsh
 obtain ⟨⟨n, hn, hf, hwd, hp0, hp1, hp2⟩, hks⟩ := hsh
 simp only [PT.tame] at hta
 simp only [PT.wf] at hwf
 simp only [PT.cnt] at hle hlim
 have har : kids.length ≤ 3 := by rw [hwf.1]; cases k <;> decide
 have hno := Node_in' w (.slice x1 n1 c1) (.slice x2 n2 c2) ns op (henv.tree w (Below.refl _ _)) (base + cntL kids) n hn henv.len
 have hb := hin.blk
 have hbl := henv.len
 have y0 : w.cell? ⟨wb, 0, none⟩ = some (.slice x1 n1 c1) := by rw [blk_cell hb]; rfl
 have y1 : w.cell? ⟨wb, 1, none⟩ = some (.slice x2 n2 c2) := by rw [blk_cell hb]; rfl
 have hlay := fun (w' : World) (hb : Below w.heap.size w w') => henv.lay w' (hb.mono (Nat.le_of_lt (blk_lt hin.blk)))
 have hrg := fun (w' : World) (hb : Below w.heap.size w w') => Region_any w' L (hlay w' hb) henv.rl (base + cntL kids) (by have := henv.len; omega)
 obtain ⟨a0, e0, hlr⟩ := slice_any (hlay w (Below.refl _ _)).r
 obtain ⟨a1, e1, hla⟩ := slice_any (hlay w (Below.refl _ _)).a
 rw [hlr, hla] at hrg
 have hcall := fun w' (h1 : WIn L wb w' (.slice x1 n1 c1) (.slice x2 n2 c2) v tx) (h2 : WEnv L wb w' (.slice x1 n1 c1) (.slice x2 n2 c2) ns op) =>
  wbracket_any L wb x1 n1 c1 x2 n2 c2 ns op k nm kids hkn har ih base w' v tx n hf hwd hp0 hp1 hp2 hks hta.1 hta.2 hwf.2 (by omega) hlim (base + cntL kids) (hlo _) h1 h2
 rw [accW_end L.regs L.news p k nm rg kids base hkn] at hcall
 have q1 : ((n.form : Int) == 1) = false := ibeq_false (b := 1) (by rw [hf]; cases k <;> decide)
 have q2 : ((n.form : Int) == 2) = false := ibeq_false (b := 2) (by rw [hf]; cases k <;> decide)
 have q12 : ((n.form : Int) == 12) = false := ibeq_false (b := 12) (by rw [hf]; cases k <;> first | decide | exact absurd rfl hkn)
 unfold nrVal at hcall
 have HC : Hid _ := hcall
 have HIN : Hid _ := hin
 have HENV : Hid _ := henv
 have hlt := blk_lt hb
 unfold treeV nrVal at hno
 simp only [PT.cnt]
 rw [show (((base + (1 + cntL kids) : Nat) : Int) - 1) = ((base + cntL kids : Nat) : Int) from by omega]
 generalize (PT.node p k nm rg kids).ftx L.regs L.news base = px at *
 generalize rgV L.regs (base + cntL kids) = R at *
 generalize base + cntL kids = K at *
 clear hlay hb hin henv hcall hn hf hwd hp0 hp1 hp2 hks ih hta hwf hlim hle
 go_enter Tryz.func110, Tryz.ntmps110
 go_wp2_with fail
 refine Calls.mono hno ?_
 rintro _ w1 ⟨rfl, hb1⟩
 have hs1 := hb1.size
 have hB0 := hb1.alloc hb1.size (nrO n)
 have hwl : wb < w1.heap.size := by omega
 have hwn : wb ≠ w1.heap.size := by omega
 have y2 : w1.cell? ⟨wb, 2, none⟩ = some (.slice a0 L.regs.length e0) := by rw [blk_cell (HIN.out.below hb1).blk, ← hlr]; rfl
 have y3 : w1.cell? ⟨wb, 3, none⟩ = some (.slice a1 L.news.length e1) := by rw [blk_cell (HIN.out.below hb1).blk, ← hla]; rfl
 go_wp2_with fail
 refine (hrg _ hB0).mono ?_
 rintro _ w2 ⟨rfl, hb2⟩
 have hB : Below w.heap.size w w2 := hB0.trans (hb2.mono hB0.size)
 have hnb : w2.heap[w1.heap.size]? = some (nrO n) := by rw [hb2.block _ (by simp)]; exact blk_new _ _
 obtain ⟨d0, d1, d2, d3, d4, d5, d6, d7, d8, d9⟩ := nr_cells10 hnb
 have hnl := blk_lt hnb
 clear hb2 hnb
 go_wp2_with fail
 refine (HC.out _ (HIN.out.below hB) (HENV.out.on (hB.mono (Nat.le_of_lt hlt)))).mono ?_
 rintro _ w3 ⟨v', rfl, hfr, hin'⟩
 go_wp2_with fail
 refine bodyPost_end (v := .tuple #[]) (by simp [results, Tryz.results110, go_sem]) rfl ⟨v', rfl, (WFr.of_below v hB).trans hfr, hin'⟩
theorem exp_any (L : Ly) (hlo : ∀ i, -1 ≤ rgV L.regs i) (wb : Nat) (x1 : Option Addr) (n1 c1 : Nat) (x2 : Option Addr) (n2 c2 : Nat) (ns : List NR) (op : List Int) (t : PT) : t.wf → ExpOk L wb (.slice x1 n1 c1) (.slice x2 n2 c2) ns op t := by
 induction t using PT.ind with
 | h1 p s => exact fun _ => exp_of L _ _ _ _ _ _ (fm_num L wb x1 n1 c1 x2 n2 c2 ns op p s)
 | h2 p s => exact fun _ => exp_of L _ _ _ _ _ _ (fm_name L wb x1 n1 c1 x2 n2 c2 ns op p s)
 | h3 p k nm rg kids ih =>
  intro hwf
  simp only [PT.wf] at hwf
  have ih' : ∀ x ∈ kids, ExpOk L wb (.slice x1 n1 c1) (.slice x2 n2 c2) ns op x := fun x hx => ih x hx (wfL_mem hwf.2 x hx)
  by_cases hk : k = .new
  ·subst hk
   match kids, hwf.1, ih' with
   | [x], _, ih' => exact exp_of L _ _ _ _ _ _ (fm_new L wb x1 n1 c1 x2 n2 c2 ns op p nm rg x (ih' x (by simp)))
  ·exact exp_of L _ _ _ _ _ _ (fm_form L hlo wb x1 n1 c1 x2 n2 c2 ns op p k nm rg kids hk ih')
open Go.Lib (strCells)
theorem Tryz.undU8 : Tryz.prog.underlying 5 = some (.int .u8) := by kernel_rfl
theorem conv_row (w : World) (base : Nat) (v : Value) (tx : List UInt8) (h : w.ownsRow base 5 1 v tx.length (strCells (bs tx))) : (convert 121 9 v).run Tryz.prog w = .ok (.string (bs tx)) w := by
 rcases h.2 with ⟨h1, h2⟩ | ⟨g, cap, cur, h1, _⟩
 ·obtain rfl : tx = [] := List.eq_nil_of_length_eq_zero h2
  subst h1
  exact Lib.run_convert_nil_bytes w _ _ _ 0 Tryz.undBytes Tryz.undU8 Tryz.undStr
 ·subst h1
  have hc : Lib.Bytes w g 0 (bs tx) := by
   intro i hi
   rw [Nat.zero_add, h.cellAt i (by rw [bs_size] at hi; omega)]
   have hi' : i < tx.length := by rw [bs_size] at hi; exact hi
   simp [strCells, bs, hi']
   rfl
  have := Lib.run_convert_whole (P := Tryz.prog) w _ _ _ Tryz.undBytes Tryz.undU8 Tryz.undStr g 0 (bs tx) hc cap
  rw [bs_size] at this
  exact this
abbrev bxT (x1 : Option Addr) (n1 c1 : Nat) (x2 : Option Addr) (n2 c2 : Nat) : Obj := .cells #[.slice x1 n1 c1, .slice x2 n2 c2] 59
abbrev bxL (y1 : Option Addr) (m1 d1 : Nat) (y2 : Option Addr) (m2 d2 : Nat) : Obj := .cells #[.slice y1 m1 d1, .slice y2 m2 d2] 73
abbrev bxW (x1 : Option Addr) (n1 c1 : Nat) (x2 : Option Addr) (n2 c2 : Nat) (y1 : Option Addr) (m1 d1 : Nat) (y2 : Option Addr) (m2 d2 : Nat) : Obj := .cells #[.slice x1 n1 c1, .slice x2 n2 c2, .slice y1 m1 d1, .slice y2 m2 d2, .slice none 0 0] 123
set_option maxRecDepth 100000 in
set_option maxHeartbeats 4000000 in
theorem Placed_any (w : World) (y1 : Option Addr) (m1 d1 : Nat) (y2 : Option Addr) (m2 d2 : Nat) (regs news : List Int) (hL : LyIn w ⟨.slice y1 m1 d1, .slice y2 m2 d2, regs, news⟩) (hbd : LyB regs news) (hlo : ∀ i, -1 ≤ rgV regs i) (hrl : regs.length ≤ 9000) (x1 : Option Addr) (n1 c1 : Nat) (x2 : Option Addr) (n2 c2 : Nat) (ns : List NR) (op : List Int) (t : PT) (hT : TreeIn w (.slice x1 n1 c1) (.slice x2 n2 c2) ns op) (htab : Lib.TabIs Tryz.prog w "internal/strconv.uint64pow10" .u64 Lib.pow10Tab)
  (hsh : Shows ns t 0) (hta : t.tame) (hwf : t.wf) (hcnt : t.cnt = ns.length) (hl : ns.length ≤ 9000) :
  Calls Tryz.prog 36 #[treeV (.slice x1 n1 c1) (.slice x2 n2 c2), .agg #[.slice y1 m1 d1, .slice y2 m2 d2]] w fun v w' => v = .returned (.string (bs (t.wtx regs news 0))) ∧ Below w.heap.size w w' := by
 have hA : Below w.heap.size w ((w.alloc (bxT x1 n1 c1 x2 n2 c2)).alloc (bxL y1 m1 d1 y2 m2 d2)) := ((Below.refl _ _).alloc (Nat.le_refl _) _).alloc (by simp) _
 have hB : Below w.heap.size w (((w.alloc (bxT x1 n1 c1 x2 n2 c2)).alloc (bxL y1 m1 d1 y2 m2 d2)).alloc (bxW x1 n1 c1 x2 n2 c2 y1 m1 d1 y2 m2 d2)) := hA.alloc (by simp; omega) _
 have hin : WIn ⟨.slice y1 m1 d1, .slice y2 m2 d2, regs, news⟩ (w.heap.size + 2) (((w.alloc (bxT x1 n1 c1 x2 n2 c2)).alloc (bxL y1 m1 d1 y2 m2 d2)).alloc (bxW x1 n1 c1 x2 n2 c2 y1 m1 d1 y2 m2 d2)) (.slice x1 n1 c1) (.slice x2 n2 c2) (.slice none 0 0) [] :=
  ⟨by have := blk_new ((w.alloc (bxT x1 n1 c1 x2 n2 c2)).alloc (bxL y1 m1 d1 y2 m2 d2)) (bxW x1 n1 c1 x2 n2 c2 y1 m1 d1 y2 m2 d2); simpa using this, World.ownsRow_nil _ _ _ _⟩
 have henv : WEnv ⟨.slice y1 m1 d1, .slice y2 m2 d2, regs, news⟩ (w.heap.size + 2) (((w.alloc (bxT x1 n1 c1 x2 n2 c2)).alloc (bxL y1 m1 d1 y2 m2 d2)).alloc (bxW x1 n1 c1 x2 n2 c2 y1 m1 d1 y2 m2 d2)) (.slice x1 n1 c1) (.slice x2 n2 c2) ns op :=
  ⟨fun w' h' => hT.below (hB.trans (h'.mono (by omega))), fun w' h' => Lib.tabBelow_of_tabIs htab w' (hB.trans (h'.mono (by omega))), hl, fun w' h' => hL.below (hB.trans (h'.mono (by omega))), hbd, hrl⟩
 have hro := fun w' (h : Below w.heap.size w w') => Root_any w' _ _ ns op (hT.below h) hl
 have hex := fun w' h1 h2 => exp_any ⟨.slice y1 m1 d1, .slice y2 m2 d2, regs, news⟩ hlo (w.heap.size + 2) x1 n1 c1 x2 n2 c2 ns op t hwf 0 w' (.slice none 0 0) [] hsh hta hwf (by omega) (by simp; omega) h1 h2
 rw [Nat.zero_add, hcnt] at hex
 simp only [List.nil_append] at hex
 unfold treeV at hro
 have HRO : Hid _ := hro
 have HEX : Hid _ := hex
 have HIN : Hid _ := hin
 have HENV : Hid _ := henv
 have HB : Hid _ := hB
 clear hro hex hin henv hA hL hbd hlo hT htab hsh hta hwf hcnt hB
 unfold treeV
 go_enter Tryz.func36, Tryz.ntmps36
 go_wp2_with fail
 refine (HRO.out _ HB.out).mono ?_
 rintro _ w1 ⟨rfl, hb1⟩
 have HB1 : Hid _ := hb1
 clear hb1
 go_wp2_with fail
 refine (HEX.out _ (HIN.out.below HB1.out) (HENV.out.on (HB1.out.mono (by simp)))).mono ?_
 rintro _ w2 ⟨v', rfl, hfr, hin'⟩
 have hb2 : Below w.heap.size w w2 := HB.out.trans (((HB1.out.mono (by simp)).trans ((HIN.out.below HB1.out).fr hfr)).mono (by omega))
 obtain ⟨xa, xc, hv⟩ := slice_any hin'.row
 subst hv
 have y2 : w2.cell? ⟨w.heap.size + 2, 4, none⟩ = some (.slice xa (t.wtx regs news 0).length xc) := by rw [blk_cell hin'.blk]; rfl
 have hcv := conv_row w2 _ _ _ hin'.row
 have HB2 : Hid _ := hb2
 clear hfr hin' hb2 HEX HIN HENV HRO HB1 HB
 go_wp2
 go_ret
 exact ⟨rfl, HB2.out⟩
theorem Placed_nil (w : World) (x1 : Option Addr) (n1 c1 : Nat) (x2 : Option Addr) (n2 c2 : Nat) (ns : List NR) (op : List Int) (t : PT) (hT : TreeIn w (.slice x1 n1 c1) (.slice x2 n2 c2) ns op) (htab : Lib.TabIs Tryz.prog w "internal/strconv.uint64pow10" .u64 Lib.pow10Tab)
  (hsh : Shows ns t 0) (hta : t.tame) (hwf : t.wf) (hcnt : t.cnt = ns.length) (hl : ns.length ≤ 9000) :
  Calls Tryz.prog 36 #[treeV (.slice x1 n1 c1) (.slice x2 n2 c2), .agg #[.slice none 0 0, .slice none 0 0]] w fun v w' => v = .returned (.string (bs t.ptx)) ∧ Below w.heap.size w w' := by
 have := Placed_any w none 0 0 none 0 0 [] [] ⟨World.ownsRow_nil _ _ _ _, World.ownsRow_nil _ _ _ _⟩ ⟨by simp, fun i => by simp [rgV]⟩ (fun i => by simp [rgV]) (by simp) x1 n1 c1 x2 n2 c2 ns op t hT htab hsh hta hwf hcnt hl
 rw [wtx_nil] at this
 exact this
set_option maxRecDepth 100000 in
set_option maxHeartbeats 4000000 in
theorem Plain_any (w : World) (x1 : Option Addr) (n1 c1 : Nat) (x2 : Option Addr) (n2 c2 : Nat) (ns : List NR) (op : List Int) (t : PT) (hT : TreeIn w (.slice x1 n1 c1) (.slice x2 n2 c2) ns op) (htab : Lib.TabIs Tryz.prog w "internal/strconv.uint64pow10" .u64 Lib.pow10Tab)
  (hsh : Shows ns t 0) (hta : t.tame) (hwf : t.wf) (hcnt : t.cnt = ns.length) (hl : ns.length ≤ 9000) :
  Calls Tryz.prog 55 #[treeV (.slice x1 n1 c1) (.slice x2 n2 c2)] w fun v w' => v = .returned (.string (bs t.ptx)) ∧ Below w.heap.size w w' := by
 have hpl := fun w' (hb : Below w.heap.size w w') => Placed_nil w' x1 n1 c1 x2 n2 c2 ns op t (hT.below hb) (Lib.tabBelow_of_tabIs htab w' hb) hsh hta hwf hcnt hl
 unfold treeV at hpl
 unfold treeV
 have HP : Hid _ := hpl
 clear hpl hT htab hsh hta hwf hcnt
 go_enter Tryz.func55, Tryz.ntmps55
 go_wp2_with fail
 refine (HP.out _ ((Below.refl _ w).alloc (Nat.le_refl _) (bxT x1 n1 c1 x2 n2 c2))).mono ?_
 rintro _ w1 ⟨rfl, hb1⟩
 have HB1 : Hid _ := ((Below.refl _ w).alloc (Nat.le_refl _) (bxT x1 n1 c1 x2 n2 c2)).trans (hb1.mono (by simp))
 clear hb1
 go_wp2
 go_ret
 exact ⟨rfl, HB1.out⟩
set_option maxRecDepth 100000 in
set_option maxHeartbeats 4000000 in
theorem leaseErase_ok (s : ByteArray) (w : World) (hs : s.size ≤ 9000) (htab : Lib.TabIs Tryz.prog w "internal/strconv.uint64pow10" .u64 Lib.pow10Tab) (e : PT) (hp : PE true (tokens s.data.toList) e []) :
  Calls Tryz.prog 29 #[.string s] w fun v w' => v = .returned (.tuple #[.string (bs e.ptx), .int .i64 0]) ∧ Below w.heap.size w w' := by
 have hpp := parsePlaced_tree s w hs e hp
 have hcnt := Study_len hp
 have hta := (hp.tame (tokens_tame _)).1
 have hwf := hp.wf
 have hpl : ∀ (w1 : World) (x1 : Option Addr) (n1 c1 : Nat) (x2 : Option Addr) (n2 c2 : Nat) (ns : List NR), Below w.heap.size w w1 → TreeIn w1 (.slice x1 n1 c1) (.slice x2 n2 c2) ns (opn e 0) → NA [] e 0 ns → Calls Tryz.prog 55 #[treeV (.slice x1 n1 c1) (.slice x2 n2 c2)] w1 fun v w' => v = .returned (.string (bs e.ptx)) ∧ Below w1.heap.size w1 w' :=
  fun w1 x1 n1 c1 x2 n2 c2 ns hb hT hna => Plain_any w1 x1 n1 c1 x2 n2 c2 ns (opn e 0) e hT (Lib.tabBelow_of_tabIs htab w1 hb) hna.shows0 hta hwf hna.len.symm (by rw [hna.len]; omega)
 unfold treeV at hpl hpp
 have HPL : Hid _ := hpl
 clear hpl hta hwf hp htab hcnt
 go_enter Tryz.func29, Tryz.ntmps29
 go_wp2_with fail
 refine hpp.mono ?_
 rintro _ w1 ⟨x1, n1, c1, x2, n2, c2, ns, rfl, hb, hT, hna⟩
 have HB : Hid _ := hb.alloc hb.size (.cells #[.slice x1 n1 c1, .slice x2 n2 c2] 59)
 have HT : Hid _ := hT.below ((Below.refl _ w1).alloc (Nat.le_refl _) (.cells #[.slice x1 n1 c1, .slice x2 n2 c2] 59))
 have HNA : Hid _ := hna
 clear hb hT hna hpp
 go_wp2_with fail
 refine (HPL.out _ x1 n1 c1 x2 n2 c2 ns HB.out HT.out HNA.out).mono ?_
 rintro _ w2 ⟨rfl, hb2⟩
 have HB2 : Hid _ := HB.out.trans (hb2.mono HB.out.size)
 clear hb2 HPL HB HT HNA
 go_wp2
 refine bodyPost_ret (v := .tuple #[.string (bs e.ptx), .int .i64 0]) (by simp [results, Tryz.results29, go_sem]) rfl ⟨rfl, HB2.out⟩
structure MV where
 c : Bool
 n : Int
structure MC where
 a : MV
 b : MV
 home : Nat
 ser : Nat
structure MR where
 num : Int
 ser : Nat
 cells : Nat
structure MM where
 steps : Nat
 fault : Nat
 named : List MV
 cells : List MC
 regs : List MR
 opened : Nat
 live : Int
 most : Int
def v0 : MV := ⟨false, 0⟩
def c0 : MC := ⟨v0, v0, 0, 0⟩
def MM.stop (m : MM) (f : Nat) : MM := if m.fault = 0 then { m with fault := f } else m
def MM.opn (m : MM) (k : Int) : MM := { m with regs := m.regs ++ [⟨k, m.opened, 0⟩], opened := m.opened + 1 }
def MM.fin (m : MM) : MM := match m.regs.getLast? with
 | none => m
 | some r => { m with live := m.live - r.cells, regs := m.regs.dropLast }
def homeF (l : List MR) (k : Int) : Nat → Nat
 | 0 => 0
 | i + 1 => if (l[i + 1]?).map (·.num) = some k then i + 1 else homeF l k i
def MM.home (m : MM) (k : Int) : Nat := homeF m.regs k (m.regs.length - 1)
def MM.newCell (m : MM) (k : Int) (a b : MV) : MV × MM := match m.regs[m.home k]? with
 | none => (v0, m)
 | some r => (⟨true, m.cells.length⟩, { m with regs := m.regs.set (m.home k) { r with cells := r.cells + 1 }, cells := m.cells ++ [⟨a, b, m.home k, r.ser⟩], live := m.live + 1, most := if m.most < m.live + 1 then m.live + 1 else m.most })
def MM.isLive (m : MM) (c : MC) : Bool := match m.regs[c.home]? with
 | some r => r.ser == c.ser
 | none => false
def MM.use (m : MM) (v : MV) : MC × MM :=
 if v.c = false ∨ v.n < 0 ∨ (m.cells.length : Int) ≤ v.n then (c0, m)
 else (m.cells.getD v.n.toNat c0, if m.isLive (m.cells.getD v.n.toNat c0) = true then m else m.stop 13)
def MM.name (m : MM) (i : Int) (v : MV) : MM := if 0 ≤ i ∧ i < m.named.length then { m with named := m.named.set i.toNat v } else m
def MM.look (m : MM) (i : Int) : MV := if i < 0 ∨ (m.named.length : Int) ≤ i then v0 else m.named.getD i.toNat v0
def mBegun (fuel : Nat) (m : MM) (f : MM → MV × MM) : MV × MM :=
 let m1 := if fuel ≤ m.steps then m.stop 12 else m
 if m1.fault ≠ 0 then (v0, m1) else f { m1 with steps := m1.steps + 1 }
def mTurns (i : Int) (f : MM → MV × MM) : Nat → MV → MM → MV × MM
 | 0, x, m => (x, m)
 | k + 1, x, m => if m.fault ≠ 0 then (x, m) else mTurns i f k (f (m.name i x)).1 (f (m.name i x)).2
def mArith (k : Kw) (a b : Int) : Int :=
 if k = .add then Int.tmod (a + b) 10000 else if k = .sub then Int.tmod (a + 10000 - b) 10000 else if a < b then 1 else 0
mutual
def mW (fuel : Nat) : PT → Sc → Nat → MM → MV × MM
 | .num _ s, _, _, m => mBegun fuel m (fun m => (⟨false, valueL s⟩, m))
 | .name _ s, sc, _, m => mBegun fuel m (fun m => (m.look (findS sc s), m))
 | .node _ k nm rg kids, sc, base, m =>
  if k = .new then mNew fuel (valueL rg) kids sc base m
  else mBegun fuel m (fun m =>
   if k = .let_ then mLet fuel nm kids sc base m
   else if k = .if_ then mIf fuel kids sc base m
   else if k = .loop then mLoop fuel nm kids sc base m
   else mOps fuel k (valueL rg) kids sc base m)
def mNew (fuel : Nat) (rg : Int) : List PT → Sc → Nat → MM → MV × MM
 | [a], sc, base, m =>
  let x := mW fuel a sc base (m.opn rg)
  (x.1, x.2.fin)
 | _, _, _, m => (v0, m)
def mLet (fuel : Nat) (nm : List UInt8) : List PT → Sc → Nat → MM → MV × MM
 | [a, b], sc, base, m =>
  let x := mW fuel a sc base m
  mW fuel b (sc ++ [(nm, ((base + a.cnt : Nat) : Int) - 1)]) (base + a.cnt) (x.2.name (((base + a.cnt : Nat) : Int) - 1) x.1)
 | _, _, _, m => (v0, m)
def mIf (fuel : Nat) : List PT → Sc → Nat → MM → MV × MM
 | [a, b, c], sc, base, m =>
  let x := mW fuel a sc base m
  if x.1.n ≠ 0 then mW fuel b sc (base + a.cnt) x.2 else mW fuel c sc (base + a.cnt + b.cnt) x.2
 | _, _, _, m => (v0, m)
def mLoop (fuel : Nat) (nm : List UInt8) : List PT → Sc → Nat → MM → MV × MM
 | [a, b, c], sc, base, m =>
  let x := mW fuel a sc base m
  let y := mW fuel b sc (base + a.cnt) x.2
  mTurns (((base + a.cnt + b.cnt : Nat) : Int) - 1) (fun m => mW fuel c (sc ++ [(nm, ((base + a.cnt + b.cnt : Nat) : Int) - 1)]) (base + a.cnt + b.cnt) m) x.1.n.toNat y.1 y.2
 | _, _, _, m => (v0, m)
def mOps (fuel : Nat) (k : Kw) (rg : Int) : List PT → Sc → Nat → MM → MV × MM
 | [a], sc, base, m =>
  let x := mW fuel a sc base m
  let c := x.2.use x.1
  (if k = .fst then c.1.a else c.1.b, c.2)
 | [a, b], sc, base, m =>
  let x := mW fuel a sc base m
  let y := mW fuel b sc (base + a.cnt) x.2
  if k = .pair then y.2.newCell rg x.1 y.1 else (⟨false, mArith k x.1.n y.1.n⟩, y.2)
 | _, _, _, m => (v0, m)
end
def MV.bd (v : MV) : Prop := -30000 ≤ v.n ∧ v.n ≤ 30000
def sumC : List MR → Nat
 | [] => 0
 | r :: l => r.cells + sumC l
structure MBd (fuel : Nat) (m : MM) : Prop where
 steps : m.steps ≤ fuel
 cells : m.cells.length ≤ m.steps
 live : m.live = sumC m.regs
 sum : sumC m.regs ≤ m.cells.length
 most : 0 ≤ m.most ∧ m.most ≤ m.cells.length
 named : ∀ v ∈ m.named, v.bd
 cell : ∀ c ∈ m.cells, c.a.bd ∧ c.b.bd ∧ c.home ≤ 20000 ∧ c.ser ≤ m.opened
 regs : m.regs.length ≤ 20000
 ser : ∀ r ∈ m.regs, r.ser ≤ m.opened ∧ -1 ≤ r.num ∧ r.num ≤ 9999
theorem v0_bd : v0.bd := by simp [v0, MV.bd]
theorem MM.stop_bd {fuel : Nat} {m : MM} (h : MBd fuel m) (f : Nat) : MBd fuel (m.stop f) := by
 unfold MM.stop; split
 ·exact ⟨h.steps, h.cells, h.live, h.sum, h.most, h.named, h.cell, h.regs, h.ser⟩
 ·exact h
theorem sumC_append (a b : List MR) : sumC (a ++ b) = sumC a + sumC b := by induction a <;> simp [sumC, *]; omega
theorem sumC_set : ∀ (l : List MR) (i : Nat) (r r' : MR), l[i]? = some r → sumC (l.set i r') + r.cells = sumC l + r'.cells
 | [], i, r, r', h => by simp at h
 | a :: l, 0, r, r', h => by simp at h; subst h; simp [sumC]; omega
 | a :: l, i + 1, r, r', h => by
  have := sumC_set l i r r' (by simpa using h)
  simp [sumC]; omega
theorem MM.opn_bd {fuel : Nat} {m : MM} (h : MBd fuel m) (k : Int) (hk : -1 ≤ k ∧ k ≤ 9999) (hr : m.regs.length + 1 ≤ 20000) : MBd fuel (m.opn k) := by
 refine ⟨h.steps, h.cells, ?_, ?_, h.most, h.named, ?_, ?_, ?_⟩
 ·simp [MM.opn, sumC_append, sumC, h.live]
 ·simp [MM.opn, sumC_append, sumC]; exact h.sum
 ·intro c hc
  have := h.cell c hc
  exact ⟨this.1, this.2.1, this.2.2.1, Nat.le_succ_of_le this.2.2.2⟩
 ·simp [MM.opn]; omega
 ·intro r hr
  simp only [MM.opn, List.mem_append, List.mem_singleton] at hr
  rcases hr with hr | rfl
  ·have := h.ser r hr; exact ⟨Nat.le_succ_of_le this.1, this.2⟩
  ·exact ⟨Nat.le_succ _, hk⟩
theorem MM.fin_bd {fuel : Nat} {m : MM} (h : MBd fuel m) : MBd fuel m.fin := by
 cases hl : m.regs.getLast? with
 | none => unfold MM.fin; rw [hl]; exact h
 | some r =>
  have ef : m.fin = { m with live := m.live - r.cells, regs := m.regs.dropLast } := by unfold MM.fin; rw [hl]
  rw [ef]
  have e : m.regs.dropLast ++ [r] = m.regs := by
   rw [List.getLast?_eq_some_iff] at hl
   obtain ⟨ys, hy⟩ := hl
   rw [hy]; simp
  have hs : sumC m.regs = sumC m.regs.dropLast + r.cells := by
   conv => lhs; rw [← e]
   simp [sumC_append, sumC]
  have h1 := h.live
  have h2 := h.sum
  refine ⟨h.steps, h.cells, ?_, ?_, h.most, h.named, h.cell, ?_, ?_⟩
  ·show m.live - r.cells = ((sumC m.regs.dropLast : Nat) : Int); rw [h1, hs]; omega
  ·show sumC m.regs.dropLast ≤ m.cells.length; omega
  ·show m.regs.dropLast.length ≤ _; have := h.regs; simp; omega
  ·intro x hx
   exact h.ser x (by rw [← e]; exact List.mem_append_left _ hx)
theorem MM.newCell_bd {fuel : Nat} {m : MM} (h : MBd fuel m) (k : Int) (a b : MV) (ha : a.bd) (hb : b.bd) (hc : m.cells.length < m.steps) (hf : fuel ≤ 20000) : MBd fuel (m.newCell k a b).2 ∧ (m.newCell k a b).1.bd := by
 cases hr : m.regs[m.home k]? with
 | none => unfold MM.newCell; rw [hr]; exact ⟨h, v0_bd⟩
 | some r =>
  have ef : m.newCell k a b = (⟨true, m.cells.length⟩, { m with regs := m.regs.set (m.home k) { r with cells := r.cells + 1 }, cells := m.cells ++ [⟨a, b, m.home k, r.ser⟩], live := m.live + 1, most := if m.most < m.live + 1 then m.live + 1 else m.most }) := by unfold MM.newCell; rw [hr]
  rw [ef]
  have h1 := h.live
  have h2 := h.sum
  have h3 := h.most
  have hm := List.mem_of_getElem? hr
  have h4 := sumC_set m.regs (m.home k) r { r with cells := r.cells + 1 } hr
  simp only at h4
  have hlt := (List.getElem?_eq_some_iff.1 hr).1
  have hst := h.steps
  refine ⟨⟨h.steps, ?_, ?_, ?_, ?_, h.named, ?_, ?_, ?_⟩, ?_⟩
  ·simp; omega
  ·show m.live + 1 = ((sumC (m.regs.set (m.home k) { r with cells := r.cells + 1 }) : Nat) : Int); rw [h1]; omega
  ·show sumC (m.regs.set (m.home k) { r with cells := r.cells + 1 }) ≤ (m.cells ++ _).length; simp only [List.length_append, List.length_cons, List.length_nil]; omega
  ·show 0 ≤ (if m.most < m.live + 1 then m.live + 1 else m.most) ∧ (if m.most < m.live + 1 then m.live + 1 else m.most) ≤ ((m.cells ++ _).length : Int)
   simp only [List.length_append, List.length_cons, List.length_nil]
   split <;> omega
  ·intro c hc
   simp only [List.mem_append, List.mem_singleton] at hc
   rcases hc with hc | rfl
   ·exact h.cell c hc
   ·refine ⟨ha, hb, ?_, (h.ser r hm).1⟩
    have := h.regs
    show m.home k ≤ 20000
    omega
  ·show (m.regs.set _ _).length ≤ _; rw [List.length_set]; exact h.regs
  ·intro x hx
   rcases List.mem_or_eq_of_mem_set hx with hx | rfl
   ·exact h.ser x hx
   ·exact h.ser r hm
  ·simp only [MV.bd]; omega
theorem getD_mem {α : Type} (l : List α) (i : Nat) (d : α) (h : i < l.length) : l.getD i d ∈ l := by
 rw [List.getD_eq_getElem?_getD, List.getElem?_eq_getElem h]; simp
theorem MM.use_bd {fuel : Nat} {m : MM} (h : MBd fuel m) (v : MV) : MBd fuel (m.use v).2 ∧ (m.use v).1.a.bd ∧ (m.use v).1.b.bd := by
 unfold MM.use
 split
 ·exact ⟨h, v0_bd, v0_bd⟩
 ·rename_i hn
  have hlt : v.n.toNat < m.cells.length := by omega
  have hm := h.cell _ (getD_mem m.cells v.n.toNat c0 hlt)
  refine ⟨?_, hm.1, hm.2.1⟩
  simp only
  split
  ·exact h
  ·exact MM.stop_bd h 13
theorem MM.name_bd {fuel : Nat} {m : MM} (h : MBd fuel m) (i : Int) (v : MV) (hv : v.bd) : MBd fuel (m.name i v) := by
 unfold MM.name
 split
 ·refine ⟨h.steps, h.cells, h.live, h.sum, h.most, ?_, h.cell, h.regs, h.ser⟩
  intro x hx
  rcases List.mem_or_eq_of_mem_set hx with hx | rfl
  ·exact h.named x hx
  ·exact hv
 ·exact h
theorem MM.look_bd {fuel : Nat} {m : MM} (h : MBd fuel m) (i : Int) : (m.look i).bd := by
 unfold MM.look
 split
 ·exact v0_bd
 ·exact h.named _ (getD_mem _ _ _ (by omega))
theorem arith_bd (k : Kw) (a b : Int) : (⟨false, mArith k a b⟩ : MV).bd := by
 unfold MV.bd mArith
 simp only
 have h1 := Int.tmod_lt_of_pos (a + b) (show (0 : Int) < 10000 by omega)
 have h2 := Int.tmod_lt_of_pos (a + 10000 - b) (show (0 : Int) < 10000 by omega)
 have h3 := Int.lt_tmod_of_pos (a + b) (show (0 : Int) < 10000 by omega)
 have h4 := Int.lt_tmod_of_pos (a + 10000 - b) (show (0 : Int) < 10000 by omega)
 split
 ·omega
 ·split
  ·omega
  ·split <;> omega
structure Grow (n : Nat) (m m' : MM) : Prop where
 st : m.steps ≤ m'.steps
 fl : m.fault ≠ 0 → m'.fault ≠ 0 ∧ m'.steps = m.steps
 op : m'.opened + 20000 * m.steps + (if m'.fault = 0 then 20000 else 0) ≤ m.opened + 20000 * m'.steps + n
 rg : m'.regs.length = m.regs.length
 nm : m'.named.length = m.named.length
 cl : m'.cells.length + m.steps ≤ m.cells.length + m'.steps
structure Inner (n s : Nat) (m m' : MM) : Prop where
 st : m.steps ≤ m'.steps
 op : m'.opened + 20000 * m.steps ≤ m.opened + 20000 * m'.steps + n
 rg : m'.regs.length = m.regs.length
 nm : m'.named.length = m.named.length
 cl : m'.cells.length + m.steps ≤ m.cells.length + m'.steps + s
theorem Inner.refl (m : MM) : Inner 0 0 m m := ⟨Nat.le_refl _, by omega, rfl, rfl, by omega⟩
theorem Grow.inner {n : Nat} {m m' : MM} (h : Grow n m m') : Inner n 0 m m' := ⟨h.st, by have := h.op; split at this <;> omega, h.rg, h.nm, by have := h.cl; omega⟩
theorem Inner.trans {n n' s s' : Nat} {m m1 m2 : MM} (h : Inner n s m m1) (h' : Inner n' s' m1 m2) : Inner (n + n') (s + s') m m2 := by
 have := h.st; have := h'.st; have := h.op; have := h'.op; have := h.cl; have := h'.cl
 exact ⟨by omega, by omega, h'.rg.trans h.rg, h'.nm.trans h.nm, by omega⟩
theorem Inner.le {n n' s s' : Nat} {m m1 : MM} (h : Inner n s m m1) (hn : n ≤ n') (hs : s ≤ s') : Inner n' s' m m1 := by
 have := h.op; have := h.cl
 exact ⟨h.st, by omega, h.rg, h.nm, by omega⟩
theorem stop_inner (m : MM) (f : Nat) : Inner 0 0 m (m.stop f) := by
 unfold MM.stop; split
 ·exact ⟨Nat.le_refl _, by simp only; omega, rfl, rfl, by simp only; omega⟩
 ·exact Inner.refl m
theorem use_inner (m : MM) (v : MV) : Inner 0 0 m (m.use v).2 := by
 unfold MM.use; split
 ·exact Inner.refl m
 ·simp only; split
  ·exact Inner.refl m
  ·exact stop_inner m 13
theorem name_inner (m : MM) (i : Int) (v : MV) : Inner 0 0 m (m.name i v) := by
 unfold MM.name; split
 ·exact ⟨Nat.le_refl _, by simp only; omega, rfl, by simp, by simp only; omega⟩
 ·exact Inner.refl m
theorem name_fault (m : MM) (i : Int) (v : MV) : (m.name i v).fault = m.fault ∧ (m.name i v).steps = m.steps := by unfold MM.name; split <;> exact ⟨rfl, rfl⟩
theorem cell_inner (m : MM) (k : Int) (a b : MV) : Inner 0 1 m (m.newCell k a b).2 := by
 cases hr : m.regs[m.home k]? with
 | none => unfold MM.newCell; rw [hr]; exact (Inner.refl m).le (Nat.le_refl _) (by omega)
 | some r =>
  have ef : m.newCell k a b = (⟨true, m.cells.length⟩, { m with regs := m.regs.set (m.home k) { r with cells := r.cells + 1 }, cells := m.cells ++ [⟨a, b, m.home k, r.ser⟩], live := m.live + 1, most := if m.most < m.live + 1 then m.live + 1 else m.most }) := by unfold MM.newCell; rw [hr]
  rw [ef]
  exact ⟨Nat.le_refl _, by simp only; omega, by simp, rfl, by simp; omega⟩
def MKeeps (fuel n : Nat) (m : MM) (x : MV × MM) : Prop := MBd fuel x.2 ∧ x.1.bd ∧ Grow n m x.2
def MKeepsI (fuel n s : Nat) (m : MM) (x : MV × MM) : Prop := MBd fuel x.2 ∧ x.1.bd ∧ Inner n s m x.2
theorem begun_keeps {fuel n : Nat} {m : MM} {f : MM → MV × MM} (h : MBd fuel m) (hf : m.fault = 0 → m.steps < fuel → MBd fuel { m with steps := m.steps + 1 } → MKeepsI fuel n 1 { m with steps := m.steps + 1 } (f { m with steps := m.steps + 1 })) : MKeeps fuel (1 + n) m (mBegun fuel m f) := by
 unfold mBegun
 by_cases hfu : fuel ≤ m.steps
 ·simp only [if_pos hfu]
  have hne : (m.stop 12).fault ≠ 0 := by unfold MM.stop; split <;> simp_all
  simp only [if_pos hne]
  have hi := stop_inner m 12
  have hs : (m.stop 12).steps = m.steps := by unfold MM.stop; split <;> rfl
  refine ⟨MM.stop_bd h 12, v0_bd, ⟨hi.st, fun _ => ⟨hne, hs⟩, ?_, hi.rg, hi.nm, ?_⟩⟩
  ·have := hi.op; rw [if_neg hne]; simp only at this ⊢; omega
  ·have := hi.cl; simp only at this ⊢; omega
 ·simp only [if_neg hfu]
  by_cases hz : m.fault = 0
  ·rw [if_neg (fun hn => hn hz)]
   have hst := h.steps
   have hb : MBd fuel { m with steps := m.steps + 1 } := ⟨by simp only; omega, Nat.le_succ_of_le h.cells, h.live, h.sum, h.most, h.named, h.cell, h.regs, h.ser⟩
   obtain ⟨h1, h2, h3⟩ := hf hz (by omega) hb
   generalize f { m with steps := m.steps + 1 } = y at h1 h2 h3
   have q1 := h3.st; have q2 := h3.op; have q3 := h3.cl
   simp only at q1 q2 q3
   have q4 : (if y.2.fault = 0 then 20000 else 0) ≤ 20000 := by split <;> decide
   exact ⟨h1, h2, ⟨by omega, fun hn => absurd hz hn, by omega, h3.rg, h3.nm, by omega⟩⟩
  ·simp only [if_pos hz]
   exact ⟨h, v0_bd, ⟨Nat.le_refl _, fun _ => ⟨hz, rfl⟩, by simp only [if_neg hz]; omega, rfl, rfl, by simp only; omega⟩⟩
theorem turns_keeps {fuel n : Nat} (hn : n ≤ 20000) {i : Int} {f : MM → MV × MM} {R : Nat} (hf : ∀ m, MBd fuel m → m.regs.length = R → MKeeps fuel n m (f m)) : ∀ (k : Nat) (x : MV) (m : MM), MBd fuel m → x.bd → m.regs.length = R → MKeepsI fuel n 0 m (mTurns i f k x m)
 | 0, x, m, hm, hx, _ => ⟨hm, hx, (Inner.refl m).le (Nat.zero_le _) (Nat.le_refl _)⟩
 | k + 1, x, m, hm, hx, hR => by
  simp only [mTurns]
  split
  ·exact ⟨hm, hx, (Inner.refl m).le (Nat.zero_le _) (Nat.le_refl _)⟩
  ·rename_i hz
   have hz : m.fault = 0 := by simpa using hz
   have hni := name_inner m i x
   obtain ⟨h1, h2, h3⟩ := hf (m.name i x) (MM.name_bd hm i x hx) (hni.rg.trans hR)
   have hnf := name_fault m i x
   have ih := turns_keeps (i := i) hn hf k (f (m.name i x)).1 (f (m.name i x)).2 h1 h2 (h3.rg.trans (hni.rg.trans hR))
   by_cases hf1 : (f (m.name i x)).2.fault = 0
   ·refine ⟨ih.1, ih.2.1, ?_⟩
    have a := ih.2.2
    have q1 := h3.op
    rw [if_pos hf1] at q1
    have q2 := hni.op; have q3 := hni.cl; have q4 := h3.cl; have q5 := h3.st; have q6 := a.op; have q7 := a.cl; have q8 := a.st
    exact ⟨by omega, by omega, a.rg.trans (h3.rg.trans hni.rg), a.nm.trans (h3.nm.trans hni.nm), by omega⟩
   ·have e : mTurns i f k (f (m.name i x)).1 (f (m.name i x)).2 = ((f (m.name i x)).1, (f (m.name i x)).2) := by
     cases k with
     | zero => rfl
     | succ k => simp only [mTurns]; rw [if_pos hf1]
    rw [e]
    have := hni.trans h3.inner
    exact ⟨h1, h2, this.le (by omega) (by omega)⟩
mutual
def PT.rgd : PT → Prop
 | .num _ s => 0 ≤ valueL s ∧ valueL s ≤ 9999
 | .name _ _ => True
 | .node _ _ _ rg kids => (0 ≤ valueL rg ∧ valueL rg ≤ 9999) ∧ rgdL kids
def rgdL : List PT → Prop
 | [] => True
 | t :: r => t.rgd ∧ rgdL r
end
mutual
theorem mW_keeps (fuel : Nat) (hfu : fuel ≤ 20000) : ∀ (t : PT) (sc : Sc) (base : Nat) (m : MM), t.wf → t.rgd → MBd fuel m → m.regs.length + t.cnt ≤ 20000 → MKeeps fuel t.cnt m (mW fuel t sc base m)
 | .num p s, sc, base, m, _, hr, hb, _ => by
  simp only [PT.rgd] at hr
  simp only [mW, PT.cnt]
  exact begun_keeps (n := 0) hb (fun _ _ hb => ⟨hb, by simp only [MV.bd]; omega, (Inner.refl _).le (Nat.le_refl _) (by omega)⟩)
 | .name p s, sc, base, m, _, _, hb, _ => by
  simp only [mW, PT.cnt]
  exact begun_keeps (n := 0) hb (fun _ _ hb => ⟨hb, MM.look_bd hb _, (Inner.refl _).le (Nat.le_refl _) (by omega)⟩)
 | .node p k nm rg kids, sc, base, m, hw, hr, hb, hl => by
  simp only [PT.wf] at hw
  simp only [PT.rgd] at hr
  simp only [PT.cnt] at hl
  simp only [mW, PT.cnt]
  by_cases hk : k = .new
  ·subst hk
   simp only [if_pos]
   exact mNew_keeps fuel hfu (valueL rg) (by omega) kids sc base m hw.1 hw.2 hr.2 hb hl
  ·simp only [if_neg hk]
   refine begun_keeps hb (fun hz hlt hb1 => ?_)
   by_cases hk1 : k = .let_
   ·subst hk1
    simp only [if_pos]
    exact mLet_keeps fuel hfu nm kids sc base _ hw.1 hw.2 hr.2 hb1 (by simp only; omega)
   ·simp only [if_neg hk1]
    by_cases hk2 : k = .if_
    ·subst hk2
     simp only [if_pos]
     exact mIf_keeps fuel hfu kids sc base _ hw.1 hw.2 hr.2 hb1 (by simp only; omega)
    ·simp only [if_neg hk2]
     by_cases hk3 : k = .loop
     ·subst hk3
      simp only [if_pos]
      exact mLoop_keeps fuel hfu nm kids sc base _ hw.1 hw.2 hr.2 hb1 (by simp only; omega)
     ·simp only [if_neg hk3]
      have := hb.cells
      exact mOps_keeps fuel hfu k (valueL rg) kids sc base _ hw.2 hr.2 hb1 (by simp only; omega) (by simp only; omega)
theorem mNew_keeps (fuel : Nat) (hfu : fuel ≤ 20000) (rg : Int) (hrg : -1 ≤ rg ∧ rg ≤ 9999) : ∀ (ts : List PT) (sc : Sc) (base : Nat) (m : MM), ts.length = arity .new → wfL ts → rgdL ts → MBd fuel m → m.regs.length + (1 + cntL ts) ≤ 20000 → MKeeps fuel (1 + cntL ts) m (mNew fuel rg ts sc base m)
 | [a], sc, base, m, _, hw, hr, hb, hl => by
  simp only [wfL] at hw
  simp only [rgdL] at hr
  simp only [cntL] at hl
  simp only [mNew, cntL]
  have h0 := MM.opn_bd hb rg hrg (by omega)
  have ho : (m.opn rg).regs.length = m.regs.length + 1 := by simp [MM.opn]
  obtain ⟨h1, h2, h3⟩ := mW_keeps fuel hfu a sc base (m.opn rg) hw.1 hr.1 h0 (by omega)
  have e1 : (m.opn rg).steps = m.steps := rfl
  have e2 : (m.opn rg).fault = m.fault := rfl
  have e3 : (m.opn rg).opened = m.opened + 1 := rfl
  have e4 : (m.opn rg).named = m.named := rfl
  have e5 : (m.opn rg).cells = m.cells := rfl
  generalize mW fuel a sc base (m.opn rg) = x at h1 h2 h3
  have hrl := h3.rg
  have hfin : x.2.fin.steps = x.2.steps ∧ x.2.fin.fault = x.2.fault ∧ x.2.fin.opened = x.2.opened ∧ x.2.fin.named = x.2.named ∧ x.2.fin.cells = x.2.cells ∧ x.2.fin.regs.length = x.2.regs.length - 1 := by
   unfold MM.fin
   cases hg : x.2.regs.getLast? with
   | none => have : x.2.regs = [] := by simpa using hg
             rw [this] at hrl; simp at hrl; omega
   | some r => exact ⟨rfl, rfl, rfl, rfl, rfl, by simp⟩
  obtain ⟨f1, f2, f3, f4, f5, f6⟩ := hfin
  have g1 := h3.st; have g2 := h3.fl; have g3 := h3.op; have g4 := h3.nm; have g5 := h3.cl
  rw [e1] at g1 g2 g3 g5
  rw [e2] at g2
  rw [e3] at g3
  rw [e4] at g4
  rw [e5] at g5
  refine ⟨MM.fin_bd h1, h2, ⟨by rw [f1]; exact g1, by rw [f1, f2]; exact g2, ?_, by rw [f6]; omega, by rw [f4]; exact g4, by rw [f5, f1]; exact g5⟩⟩
  rw [f3, f2, f1]
  omega
 | [], _, _, _, hl, _, _, _, _ => by simp [arity] at hl
 | _ :: _ :: _, _, _, _, hl, _, _, _, _ => by simp [arity] at hl
theorem mLet_keeps (fuel : Nat) (hfu : fuel ≤ 20000) (nm : List UInt8) : ∀ (ts : List PT) (sc : Sc) (base : Nat) (m : MM), ts.length = arity .let_ → wfL ts → rgdL ts → MBd fuel m → m.regs.length + (1 + cntL ts) ≤ 20000 → MKeepsI fuel (cntL ts) 1 m (mLet fuel nm ts sc base m)
 | [a, b], sc, base, m, _, hw, hr, hb, hl => by
  simp only [wfL] at hw
  simp only [rgdL] at hr
  simp only [cntL] at hl
  simp only [mLet, cntL]
  obtain ⟨h1, h2, h3⟩ := mW_keeps fuel hfu a sc base m hw.1 hr.1 hb (by omega)
  generalize mW fuel a sc base m = x at h1 h2 h3
  have hrl := h3.rg
  have hn := name_inner x.2 (((base + a.cnt : Nat) : Int) - 1) x.1
  have hnr := hn.rg
  obtain ⟨k1, k2, k3⟩ := mW_keeps fuel hfu b (sc ++ [(nm, ((base + a.cnt : Nat) : Int) - 1)]) (base + a.cnt) _ hw.2.1 hr.2.1 (MM.name_bd h1 (((base + a.cnt : Nat) : Int) - 1) x.1 h2) (by omega)
  exact ⟨k1, k2, (h3.inner.trans (hn.trans k3.inner)).le (by omega) (by omega)⟩
 | [], _, _, _, hl, _, _, _, _ => by simp [arity] at hl
 | [_], _, _, _, hl, _, _, _, _ => by simp [arity] at hl
 | _ :: _ :: _ :: _, _, _, _, hl, _, _, _, _ => by simp [arity] at hl
theorem mIf_keeps (fuel : Nat) (hfu : fuel ≤ 20000) : ∀ (ts : List PT) (sc : Sc) (base : Nat) (m : MM), ts.length = arity .if_ → wfL ts → rgdL ts → MBd fuel m → m.regs.length + (1 + cntL ts) ≤ 20000 → MKeepsI fuel (cntL ts) 1 m (mIf fuel ts sc base m)
 | [a, b, c], sc, base, m, _, hw, hr, hb, hl => by
  simp only [wfL] at hw
  simp only [rgdL] at hr
  simp only [cntL] at hl
  simp only [mIf, cntL]
  obtain ⟨h1, h2, h3⟩ := mW_keeps fuel hfu a sc base m hw.1 hr.1 hb (by omega)
  generalize mW fuel a sc base m = x at h1 h2 h3
  have hrl := h3.rg
  split
  ·obtain ⟨k1, k2, k3⟩ := mW_keeps fuel hfu b sc (base + a.cnt) x.2 hw.2.1 hr.2.1 h1 (by omega)
   exact ⟨k1, k2, (h3.inner.trans k3.inner).le (by omega) (by omega)⟩
  ·obtain ⟨k1, k2, k3⟩ := mW_keeps fuel hfu c sc (base + a.cnt + b.cnt) x.2 hw.2.2.1 hr.2.2.1 h1 (by omega)
   exact ⟨k1, k2, (h3.inner.trans k3.inner).le (by omega) (by omega)⟩
 | [], _, _, _, hl, _, _, _, _ => by simp [arity] at hl
 | [_], _, _, _, hl, _, _, _, _ => by simp [arity] at hl
 | [_, _], _, _, _, hl, _, _, _, _ => by simp [arity] at hl
 | _ :: _ :: _ :: _ :: _, _, _, _, hl, _, _, _, _ => by simp [arity] at hl
theorem mLoop_keeps (fuel : Nat) (hfu : fuel ≤ 20000) (nm : List UInt8) : ∀ (ts : List PT) (sc : Sc) (base : Nat) (m : MM), ts.length = arity .loop → wfL ts → rgdL ts → MBd fuel m → m.regs.length + (1 + cntL ts) ≤ 20000 → MKeepsI fuel (cntL ts) 1 m (mLoop fuel nm ts sc base m)
 | [a, b, c], sc, base, m, _, hw, hr, hb, hl => by
  simp only [wfL] at hw
  simp only [rgdL] at hr
  simp only [cntL] at hl
  simp only [mLoop, cntL]
  obtain ⟨h1, h2, h3⟩ := mW_keeps fuel hfu a sc base m hw.1 hr.1 hb (by omega)
  generalize mW fuel a sc base m = x at h1 h2 h3
  have hrl := h3.rg
  obtain ⟨k1, k2, k3⟩ := mW_keeps fuel hfu b sc (base + a.cnt) x.2 hw.2.1 hr.2.1 h1 (by omega)
  generalize mW fuel b sc (base + a.cnt) x.2 = y at k1 k2 k3
  have hrl2 := k3.rg
  obtain ⟨l1, l2, l3⟩ := turns_keeps (n := c.cnt) (by omega) (i := ((base + a.cnt + b.cnt : Nat) : Int) - 1) (R := y.2.regs.length) (f := fun m => mW fuel c (sc ++ [(nm, ((base + a.cnt + b.cnt : Nat) : Int) - 1)]) (base + a.cnt + b.cnt) m)
   (fun m hm hR => mW_keeps fuel hfu c _ (base + a.cnt + b.cnt) m hw.2.2.1 hr.2.2.1 hm (by omega)) x.1.n.toNat y.1 y.2 k1 k2 rfl
  exact ⟨l1, l2, (h3.inner.trans (k3.inner.trans l3)).le (by omega) (by omega)⟩
 | [], _, _, _, hl, _, _, _, _ => by simp [arity] at hl
 | [_], _, _, _, hl, _, _, _, _ => by simp [arity] at hl
 | [_, _], _, _, _, hl, _, _, _, _ => by simp [arity] at hl
 | _ :: _ :: _ :: _ :: _, _, _, _, hl, _, _, _, _ => by simp [arity] at hl
theorem mOps_keeps (fuel : Nat) (hfu : fuel ≤ 20000) (k : Kw) (rg : Int) : ∀ (ts : List PT) (sc : Sc) (base : Nat) (m : MM), wfL ts → rgdL ts → MBd fuel m → m.regs.length + (1 + cntL ts) ≤ 20000 → m.cells.length < m.steps → MKeepsI fuel (cntL ts) 1 m (mOps fuel k rg ts sc base m)
 | [a], sc, base, m, hw, hr, hb, hl, _ => by
  simp only [wfL] at hw
  simp only [rgdL] at hr
  simp only [cntL] at hl
  simp only [mOps, cntL]
  obtain ⟨h1, h2, h3⟩ := mW_keeps fuel hfu a sc base m hw.1 hr.1 hb (by omega)
  generalize mW fuel a sc base m = x at h1 h2 h3
  have hu := MM.use_bd h1 x.1
  refine ⟨hu.1, ?_, (h3.inner.trans (use_inner x.2 x.1)).le (by omega) (by omega)⟩
  simp only
  split
  ·exact hu.2.1
  ·exact hu.2.2
 | [a, b], sc, base, m, hw, hr, hb, hl, hlt => by
  simp only [wfL] at hw
  simp only [rgdL] at hr
  simp only [cntL] at hl
  simp only [mOps, cntL]
  obtain ⟨h1, h2, h3⟩ := mW_keeps fuel hfu a sc base m hw.1 hr.1 hb (by omega)
  generalize mW fuel a sc base m = x at h1 h2 h3
  have hrl := h3.rg
  obtain ⟨k1, k2, k3⟩ := mW_keeps fuel hfu b sc (base + a.cnt) x.2 hw.2.1 hr.2.1 h1 (by omega)
  generalize mW fuel b sc (base + a.cnt) x.2 = y at k1 k2 k3
  have q1 := h3.cl; have q2 := k3.cl
  split
  ·have hc := MM.newCell_bd k1 rg x.1 y.1 h2 k2 (by omega) hfu
   exact ⟨hc.1, hc.2, (h3.inner.trans (k3.inner.trans (cell_inner y.2 rg x.1 y.1))).le (by omega) (by omega)⟩
  ·exact ⟨k1, arith_bd _ _ _, (h3.inner.trans k3.inner).le (by omega) (by omega)⟩
 | [], _, _, m, _, _, hb, _, _ => by simp only [mOps]; exact ⟨hb, v0_bd, (Inner.refl m).le (Nat.zero_le _) (by omega)⟩
 | _ :: _ :: _ :: _, _, _, m, _, _, hb, _, _ => by simp only [mOps]; exact ⟨hb, v0_bd, (Inner.refl m).le (Nat.zero_le _) (by omega)⟩
end
theorem ibeq_false' {a : Nat} (h : a ≠ 0) : ((a : Int) == 0) = false := by rw [beq_eq_false_iff_ne]; omega
def mvL (v : MV) : List Value := [.bool v.c, .int .i64 v.n]
def mvV (v : MV) : Value := .agg #[.bool v.c, .int .i64 v.n]
def mcL (c : MC) : List Value := [.bool c.a.c, .int .i64 c.a.n, .bool c.b.c, .int .i64 c.b.n, .int .i64 c.home, .int .i64 c.ser]
def mcV (c : MC) : Value := .agg #[.bool c.a.c, .int .i64 c.a.n, .bool c.b.c, .int .i64 c.b.n, .int .i64 c.home, .int .i64 c.ser]
def mrL (r : MR) : List Value := [.int .i64 r.num, .int .i64 r.ser, .int .i64 r.cells]
def mmCells (tn to_ : Value) (fuel : Nat) (nv cv rv : Value) (m : MM) : Array Value := #[tn, to_, .int .i64 fuel, .int .i64 m.steps, .int .i64 m.fault, nv, cv, rv, .int .i64 m.opened, .int .i64 m.live, .int .i64 m.most]
structure MIn (mb : Nat) (w : World) (tn to_ : Value) (fuel : Nat) (nv cv rv : Value) (m : MM) : Prop where
 y : w.heap[mb]? = some (.cells (mmCells tn to_ fuel nv cv rv m) 169 (0, 0))
 nm : w.ownsRow 0 171 2 nv m.named.length (m.named.flatMap mvL)
 cl : w.ownsRow 0 219 6 cv m.cells.length (m.cells.flatMap mcL)
 rg : w.ownsRow 0 216 3 rv m.regs.length (m.regs.flatMap mrL)
 ny : nv.ownBlock ≠ some mb
 cy : cv.ownBlock ≠ some mb
 ry : rv.ownBlock ≠ some mb
 nc : apart nv cv
 nr : apart nv rv
 cr : apart cv rv
theorem MIn.slt {mb : Nat} {w : World} {tn to_ : Value} {fuel : Nat} {nv cv rv : Value} {m : MM} (h : MIn mb w tn to_ fuel nv cv rv m) :
  (∀ k, nv.ownBlock = some k → k < w.heap.size) ∧ (∀ k, cv.ownBlock = some k → k < w.heap.size) ∧ (∀ k, rv.ownBlock = some k → k < w.heap.size) ∧ mb < w.heap.size :=
 ⟨fun k hk => (h.nm.lt k hk).2, fun k hk => (h.cl.lt k hk).2, fun k hk => (h.rg.lt k hk).2, blk_lt h.y⟩
theorem MIn.below {mb : Nat} {w w' : World} {tn to_ : Value} {fuel : Nat} {nv cv rv : Value} {m : MM} (h : MIn mb w tn to_ fuel nv cv rv m) (hb : Below w.heap.size w w') : MIn mb w' tn to_ fuel nv cv rv m :=
 ⟨by rw [hb.block mb h.slt.2.2.2]; exact h.y, owns_below h.nm hb, owns_below h.cl hb, owns_below h.rg hb, h.ny, h.cy, h.ry, h.nc, h.nr, h.cr⟩
theorem MIn.scal {mb : Nat} {w : World} {tn to_ : Value} {fuel : Nat} {nv cv rv : Value} {m : MM} (h : MIn mb w tn to_ fuel nv cv rv m) (m' : MM) (i : Nat) (u : Value)
  (h1 : m'.named = m.named) (h2 : m'.cells = m.cells) (h3 : m'.regs = m.regs) (ha : (mmCells tn to_ fuel nv cv rv m).setIfInBounds i u = mmCells tn to_ fuel nv cv rv m') :
  PFr mb mb w (w.setCell ⟨mb, i, none⟩ u) nv cv rv nv cv rv ∧ MIn mb (w.setCell ⟨mb, i, none⟩ u) tn to_ fuel nv cv rv m' := by
 have kp : ∀ k, k ≠ mb → (w.setCell ⟨mb, i, none⟩ u).heap[k]? = w.heap[k]? := fun k hk => blk_other _ _ (by simpa using hk)
 refine ⟨⟨rfl, rfl, rfl, by simp only [World.setCell, Array.size_modify]; omega, fun k _ hp _ _ _ _ => kp k hp, fun _ h => Or.inl h, fun _ h => Or.inl h, fun _ h => Or.inl h⟩, ?_⟩
 refine ⟨by rw [← ha]; exact blk_set h.y i u, ?_, ?_, ?_, h.ny, h.cy, h.ry, h.nc, h.nr, h.cr⟩
 ·rw [h1]; exact owns_blk h.nm (fun k hk => kp k (fun e => h.ny (by rw [hk, e])))
 ·rw [h2]; exact owns_blk h.cl (fun k hk => kp k (fun e => h.cy (by rw [hk, e])))
 ·rw [h3]; exact owns_blk h.rg (fun k hk => kp k (fun e => h.ry (by rw [hk, e])))
theorem mm_cells {mb : Nat} {w : World} {tn to_ : Value} {fuel : Nat} {nv cv rv : Value} {m : MM} (h : w.heap[mb]? = some (.cells (mmCells tn to_ fuel nv cv rv m) 169 (0, 0))) :
  w.cell? ⟨mb, 2, none⟩ = some (.int .i64 fuel) ∧ w.cell? ⟨mb, 3, none⟩ = some (.int .i64 m.steps) ∧ w.cell? ⟨mb, 4, none⟩ = some (.int .i64 m.fault) ∧ w.cell? ⟨mb, 5, none⟩ = some nv ∧ w.cell? ⟨mb, 6, none⟩ = some cv ∧ w.cell? ⟨mb, 7, none⟩ = some rv ∧
  w.cell? ⟨mb, 8, none⟩ = some (.int .i64 m.opened) ∧ w.cell? ⟨mb, 9, none⟩ = some (.int .i64 m.live) ∧ w.cell? ⟨mb, 10, none⟩ = some (.int .i64 m.most) := by
 refine ⟨?_, ?_, ?_, ?_, ?_, ?_, ?_, ?_, ?_⟩ <;> (rw [blk_cell h]; rfl)
set_option maxRecDepth 100000 in
set_option maxHeartbeats 1000000 in
theorem stop_any (mb : Nat) (w : World) (tn to_ : Value) (fuel : Nat) (nv cv rv : Value) (m : MM) (f : Nat) (h : MIn mb w tn to_ fuel nv cv rv m) :
  Calls Tryz.prog 157 #[ptr mb, .int .i64 f] w fun e w' => e = .returned (.tuple #[]) ∧ PFr mb mb w w' nv cv rv nv cv rv ∧ MIn mb w' tn to_ fuel nv cv rv (m.stop f) := by
 obtain ⟨_, _, y4, _⟩ := mm_cells h.y
 have f4 : w.frozen? ⟨mb, 4, none⟩ = false := blk_free h.y 4
 have hmb := blk_lt h.y
 unfold ptr
 by_cases hz : m.fault = 0
 ·have hs : m.stop f = { m with fault := f } := by unfold MM.stop; rw [if_pos hz]
  have hd := h.scal { m with fault := f } 4 (.int .i64 f) rfl rfl rfl rfl
  rw [hs]
  rw [hz] at y4
  have HD : Hid _ := hd
  clear h hd hs hz
  go_enter Tryz.func157, Tryz.ntmps157
  go_wp2
  refine bodyPost_end (v := .tuple #[]) (by simp [results, Tryz.results157, go_sem]) rfl ⟨rfl, HD.out⟩
 ·have hs : m.stop f = m := by unfold MM.stop; rw [if_neg hz]
  rw [hs]
  have q : ((m.fault : Int) == 0) = false := ibeq_false' hz
  have HD : Hid _ := h
  clear h hs hz
  go_enter Tryz.func157, Tryz.ntmps157
  go_wp2
  refine bodyPost_end (v := .tuple #[]) (by simp [results, Tryz.results157, go_sem]) rfl ⟨rfl, PFr.refl _ _ _ _ _ _, HD.out⟩
theorem flat_at {α : Type} (f : α → List Value) (s : Nat) (hs : ∀ x, (f x).length = s) : ∀ (l : List α) (i j : Nat), j < s → (l.flatMap f)[i * s + j]? = (l[i]?).bind (fun x => (f x)[j]?)
 | [], i, j, _ => by simp
 | x :: l, 0, j, hj => by
  rw [List.flatMap_cons, Nat.zero_mul, Nat.zero_add, List.getElem?_append_left (by rw [hs]; exact hj)]; simp
 | x :: l, i + 1, j, hj => by
  rw [List.flatMap_cons, List.getElem?_append_right (by rw [hs, Nat.succ_mul]; omega), hs, show (i + 1) * s + j - s = i * s + j from by rw [Nat.succ_mul]; omega, flat_at f s hs l i j hj]; simp
theorem slice_of' {w : World} {base : Nat} {e : TypeId} {size : Nat} {v : Value} {n : Nat} {xs : List Value} (h : w.ownsRow base e size v n xs) (hn : 0 < n) : ∃ g cap, v = .slice (some ⟨g, 0, none⟩) n cap := by
 rcases h.2 with ⟨_, h2⟩ | ⟨g, cap, cur, h1, _⟩
 ·omega
 ·exact ⟨g, cap, h1⟩
theorem slice_any' {w : World} {base : Nat} {e : TypeId} {size : Nat} {v : Value} {n : Nat} {xs : List Value} (h : w.ownsRow base e size v n xs) : ∃ a cap, v = .slice a n cap := by
 rcases h.2 with ⟨h1, h2⟩ | ⟨g, cap, cur, h1, _⟩
 ·exact ⟨none, 0, by rw [h1, h2]⟩
 ·exact ⟨_, _, h1⟩
theorem named_cells {w : World} {l : List MV} {g cap : Nat} (h : w.ownsRow 0 171 2 (.slice (some ⟨g, 0, none⟩) l.length cap) l.length (l.flatMap mvL)) (k : Nat) (hk : k < l.length) :
  w.cell? ⟨g, k * 2, none⟩ = some (.bool l[k].c) ∧ w.cell? ⟨g, k * 2 + 1, none⟩ = some (.int .i64 l[k].n) := by
 have key : ∀ j, j < 2 → w.cell? ⟨g, k * 2 + j, none⟩ = (mvL l[k])[j]? := by
  intro j hj
  rw [h.cellAt (k * 2 + j) (by omega), flat_at mvL 2 (fun _ => rfl) l k j hj, List.getElem?_eq_getElem hk]; rfl
 exact ⟨key 0 (by omega), key 1 (by omega)⟩
set_option maxRecDepth 100000 in
set_option maxHeartbeats 2000000 in
theorem look_any (mb : Nat) (w : World) (tn to_ : Value) (fuel : Nat) (nv cv rv : Value) (m : MM) (i : Int) (hi : -10000 ≤ i ∧ i ≤ 10000) (hl : m.named.length ≤ 9000) (h : MIn mb w tn to_ fuel nv cv rv m) :
  Calls Tryz.prog 158 #[ptr mb, .int .i64 i] w fun e w' => e = .returned (mvV (m.look i)) ∧ Below w.heap.size w w' := by
 obtain ⟨_, _, _, y5, _⟩ := mm_cells h.y
 have hmb := blk_lt h.y
 unfold ptr
 by_cases hc : i < 0 ∨ (m.named.length : Int) ≤ i
 ·have hs : m.look i = v0 := by unfold MM.look; rw [if_pos hc]
  rw [hs]
  obtain ⟨ao, cap, rfl⟩ := slice_any' h.nm
  clear h hs
  unfold mvV v0
  generalize m.named.length = n at *
  rcases hc with hc | hc
  ·go_enter Tryz.func158, Tryz.ntmps158
   go_wp2
   refine bodyPost_ret (v := .agg #[.bool false, .int .i64 0]) (by simp [results, Tryz.results158, go_sem]) rfl ⟨rfl, (Below.refl _ _).alloc (Nat.le_refl _) _⟩
  ·have hc2 : ¬ i < 0 := by omega
   go_enter Tryz.func158, Tryz.ntmps158
   go_wp2
   refine bodyPost_ret (v := .agg #[.bool false, .int .i64 0]) (by simp [results, Tryz.results158, go_sem]) rfl ⟨rfl, (Below.refl _ _).alloc (Nat.le_refl _) _⟩
 ·obtain ⟨k, rfl⟩ : ∃ k : Nat, i = k := ⟨i.toNat, by omega⟩
  have hk : k < m.named.length := by omega
  obtain ⟨g, cap, rfl⟩ := slice_of' h.nm (by omega)
  obtain ⟨c0, c1⟩ := named_cells h.nm k hk
  have hg : g < w.heap.size := (h.nm.lt g rfl).2
  have hs : m.look k = m.named[k] := by
   unfold MM.look
   rw [if_neg (by omega)]
   simp [List.getD_eq_getElem?_getD, hk]
  rw [hs]
  clear h hs hc
  unfold mvV
  generalize m.named[k] = v at *
  generalize m.named.length = n at *
  go_enter Tryz.func158, Tryz.ntmps158
  go_wp2
  refine bodyPost_ret (v := .agg #[.bool v.c, .int .i64 v.n]) (by simp [results, Tryz.results158, go_sem]) rfl ⟨rfl, (Below.refl _ _).alloc (Nat.le_refl _) _⟩
theorem below_ad (W : World) (B : Obj) : Below W.heap.size W (W.alloc B).drew := ((Below.refl _ W).alloc (Nat.le_refl _) B).trans ⟨rfl, rfl, rfl, Nat.le_refl _, fun _ _ => rfl⟩
theorem set2 {xs : List Value} {f : MV → List Value} {l : List MV} {k : Nat} {v : MV} (hx : xs = l.flatMap f) (hs : ∀ x, (f x).length = 2) (a b : Value) (hf : f v = [a, b]) (hk : k < l.length) : (xs.set (k * 2) a).set (k * 2 + 1) b = (l.set k v).flatMap f := by
 subst hx
 apply List.ext_getElem?
 intro i
 have hlen : (l.flatMap f).length = l.length * 2 := by
  clear hk
  induction l with
  | nil => rfl
  | cons x l ih => simp only [List.flatMap_cons, List.length_append, hs, ih, List.length_cons]; omega
 have key := flat_at f 2 hs (l.set k v) (i / 2) (i % 2) (Nat.mod_lt _ (by omega))
 have key0 := flat_at f 2 hs l (i / 2) (i % 2) (Nat.mod_lt _ (by omega))
 rw [show i / 2 * 2 + i % 2 = i from by omega] at key key0
 rw [key]
 by_cases hik : i / 2 = k
 ·rw [hik, List.getElem?_set_self hk]
  simp only [Option.bind_some, hf]
  rcases (show i = k * 2 ∨ i = k * 2 + 1 by omega) with rfl | rfl
  ·rw [List.getElem?_set_ne (by omega), List.getElem?_set_self (by omega)]
   rw [show k * 2 % 2 = 0 from by omega]; rfl
  ·rw [List.getElem?_set_self (by rw [List.length_set, hlen]; omega)]
   rw [show (k * 2 + 1) % 2 = 1 from by omega]; rfl
 ·rw [List.getElem?_set_ne (by omega), List.getElem?_set_ne (by omega), key0, List.getElem?_set_ne (fun e => hik e.symm)]
theorem MIn.setV {mb : Nat} {w : World} {tn to_ : Value} {fuel : Nat} {cv rv : Value} {m : MM} {g cap : Nat} (h : MIn mb w tn to_ fuel (.slice (some ⟨g, 0, none⟩) m.named.length cap) cv rv m) (k : Nat) (v : MV) (hk : k < m.named.length) :
  PFr mb mb w ((w.setCell ⟨g, k * 2, none⟩ (.bool v.c)).setCell ⟨g, k * 2 + 1, none⟩ (.int .i64 v.n)) (.slice (some ⟨g, 0, none⟩) m.named.length cap) cv rv (.slice (some ⟨g, 0, none⟩) m.named.length cap) cv rv ∧
  MIn mb ((w.setCell ⟨g, k * 2, none⟩ (.bool v.c)).setCell ⟨g, k * 2 + 1, none⟩ (.int .i64 v.n)) tn to_ fuel (.slice (some ⟨g, 0, none⟩) m.named.length cap) cv rv { m with named := m.named.set k v } := by
 have hgp : g ≠ mb := fun e => h.ny (by rw [e]; rfl)
 have kp : ∀ k', k' ≠ g → ((w.setCell ⟨g, k * 2, none⟩ (.bool v.c)).setCell ⟨g, k * 2 + 1, none⟩ (.int .i64 v.n)).heap[k']? = w.heap[k']? := fun k' hk => by rw [blk_other _ _ (by simpa using hk), blk_other _ _ (by simpa using hk)]
 have h1 := (h.nm.stored (k * 2) (.bool v.c)).1
 have h2 := (h1.stored (k * 2 + 1) (.int .i64 v.n)).1
 rw [set2 (v := v) rfl (fun _ => rfl) (.bool v.c) (.int .i64 v.n) rfl hk] at h2
 refine ⟨⟨rfl, rfl, rfl, by simp only [World.setCell, Array.size_modify]; omega, fun k' _ _ _ hs _ _ => kp k' (fun e => hs (by rw [e]; rfl)), fun _ h => Or.inl h, fun _ h => Or.inl h, fun _ h => Or.inl h⟩, ?_⟩
 refine ⟨by rw [kp mb (fun e => hgp e.symm)]; exact h.y, by simp only [List.length_set]; exact h2, owns_blk h.cl (fun k' hk => kp k' (fun e => h.nc g rfl (by rw [← e]; exact hk))), owns_blk h.rg (fun k' hk => kp k' (fun e => h.nr g rfl (by rw [← e]; exact hk))), h.ny, h.cy, h.ry, h.nc, h.nr, h.cr⟩
set_option maxRecDepth 100000 in
set_option maxHeartbeats 2000000 in
theorem name_any (mb : Nat) (w : World) (tn to_ : Value) (fuel : Nat) (nv cv rv : Value) (m : MM) (i : Int) (v : MV) (hi : -10000 ≤ i ∧ i ≤ 10000) (hl : m.named.length ≤ 9000) (h : MIn mb w tn to_ fuel nv cv rv m) :
  Calls Tryz.prog 183 #[ptr mb, .int .i64 i, mvV v] w fun e w' => e = .returned (.tuple #[]) ∧ PFr mb mb w w' nv cv rv nv cv rv ∧ MIn mb w' tn to_ fuel nv cv rv (m.name i v) := by
 obtain ⟨B, hB⟩ : ∃ B : Obj, B = .cells #[.bool v.c, .int .i64 v.n] 171 := ⟨_, rfl⟩
 have h' := h.below ((Below.refl _ w).alloc (Nat.le_refl _) B)
 have hfr : PFr mb mb w (w.alloc B) nv cv rv nv cv rv := PFr.below mb mb nv cv rv ((Below.refl _ w).alloc (Nat.le_refl _) B)
 obtain ⟨_, _, _, y5, _⟩ := mm_cells h.y
 have hmb := blk_lt h.y
 unfold ptr mvV
 by_cases hc : 0 ≤ i ∧ i < m.named.length
 ·obtain ⟨k, rfl⟩ : ∃ k : Nat, i = k := ⟨i.toNat, by omega⟩
  have hk : k < m.named.length := by omega
  have hs : m.name k v = { m with named := m.named.set k v } := by unfold MM.name; rw [if_pos hc]; rfl
  rw [hs]
  obtain ⟨g, cap, rfl⟩ := slice_of' h.nm (by omega)
  have hset := h.setV k v hk
  have f0 := h.nm.frozenAt (k * 2)
  have f1 := h.nm.frozenAt (k * 2 + 1)
  obtain ⟨c0, c1⟩ := named_cells h.nm k hk
  have hg : g < w.heap.size := (h.nm.lt g rfl).2
  have HD : Hid _ := hset
  clear h h' hset hs hfr
  subst hB
  generalize m.named[k] = u at c0 c1
  generalize m.named.length = n at *
  go_enter Tryz.func183, Tryz.ntmps183
  go_wp2
  go_region
  all_goals
   go_wp2
   refine bodyPost_end (v := .tuple #[]) (by simp [results, Tryz.results183, go_sem]) rfl ⟨rfl, ?_⟩
   exact ⟨HD.out.1.trans (PFr.below mb mb _ _ _ (below_ad _ _)), HD.out.2.below (below_ad _ _)⟩
 ·have hs : m.name i v = m := by unfold MM.name; rw [if_neg hc]
  rw [hs]
  obtain ⟨ao, cap, rfl⟩ := slice_any' h.nm
  have HD : Hid _ := h'
  have HF : Hid _ := hfr
  clear h h' hs hfr
  subst hB
  have hc' : i < 0 ∨ (0 ≤ i ∧ (m.named.length : Int) ≤ i) := by omega
  generalize m.named.length = n at *
  clear hc
  rcases hc' with hc | ⟨hc1, hc2⟩
  all_goals
   go_enter Tryz.func183, Tryz.ntmps183
   go_wp2
   refine bodyPost_end (v := .tuple #[]) (by simp [results, Tryz.results183, go_sem]) rfl ⟨rfl, HF.out, HD.out⟩
end Go.Proofs.YtpicaknklgccoaaGreatDoor
