import Derived.Test.YtpicaknklgccoaaGreatDoorX26
import Derived.Test.YtpicaknklgccoaaGreatDoorX29
namespace Go.Proofs.YtpicaknklgccoaaGreatDoor
open Go.RowKit
theorem res_cells {w : World} {q : Nat} {S : ByteArray} {a b c d : Int} (h : w.heap[q]? = some (.cells #[.string S, .int .i64 a, .int .i64 b, .int .i64 c, .int .i64 d] 23)) :
  w.cell? ⟨q, 0, none⟩ = some (.string S) ∧ w.cell? ⟨q, 1, none⟩ = some (.int .i64 a) ∧ w.cell? ⟨q, 2, none⟩ = some (.int .i64 b) ∧ w.cell? ⟨q, 3, none⟩ = some (.int .i64 c) ∧ w.cell? ⟨q, 4, none⟩ = some (.int .i64 d) := by
 refine ⟨?_, ?_, ?_, ?_, ?_⟩ <;> (rw [blk_cell h]; rfl)
set_option maxRecDepth 100000 in
set_option maxHeartbeats 4000000 in
theorem run_ok (w : World) (x1 : Option Addr) (n1 c1 : Nat) (x2 : Option Addr) (n2 c2 : Nat) (fuel : Nat) (hf : fuel ≤ 20000) (S : ByteArray) (a b c d E : Int)
  (hrun : ∀ w', Below w.heap.size w w' → Calls Tryz.prog 59 #[treeV (.slice x1 n1 c1) (.slice x2 n2 c2), .int .i64 fuel] w' fun e w'' => e = .returned (.tuple #[.agg #[.string S, .int .i64 a, .int .i64 b, .int .i64 c, .int .i64 d], .int .i64 E]) ∧ Below w'.heap.size w' w'') :
  Calls Tryz.prog 32 #[treeV (.slice x1 n1 c1) (.slice x2 n2 c2), .int .i64 fuel] w fun e w' => e = .returned (.tuple #[.agg #[.string S, .int .i64 a, .int .i64 b, .int .i64 c, .int .i64 d], .int .i64 E]) ∧ Below w.heap.size w w' := by
 have HR : Hid _ := hrun
 clear hrun
 unfold treeV at HR
 unfold treeV
 go_enter Tryz.func32, Tryz.ntmps32
 go_wp2_with fail
 refine Calls.mono (HR.out _ (below_al (below_al (Below.refl _ _) _) _)) ?_
 rintro _ w2 ⟨rfl, hb2⟩
 have hq : w2.heap[w.heap.size + 1]? = some (.cells #[.string ⟨#[]⟩, .int .i64 0, .int .i64 0, .int .i64 0, .int .i64 0] 23) := by
  rw [hb2.block _ (by simp)]
  have := blk_new (w.alloc (.cells #[.slice x1 n1 c1, .slice x2 n2 c2] 59)) (.cells #[.string ⟨#[]⟩, .int .i64 0, .int .i64 0, .int .i64 0, .int .i64 0] 23)
  simpa using this
 have hB : Below w.heap.size w w2 := (below_al (below_al (Below.refl _ w) (.cells #[.slice x1 n1 c1, .slice x2 n2 c2] 59)) (.cells #[.string ⟨#[]⟩, .int .i64 0, .int .i64 0, .int .i64 0, .int .i64 0] 23)).trans (hb2.mono (by simp; omega))
 have HB : Hid _ := hB
 have hle : w.heap.size ≤ w.heap.size + 1 := by omega
 have HLE : Hid _ := hle
 clear hb2 hB hle HR
 generalize w.heap.size + 1 = q at *
 go_wp2_with (refine st_row rfl 23 (.tmp 4) (.tmp 16) rfl q #[.string S, .int .i64 a, .int .i64 b, .int .i64 c, .int .i64 d] rfl rfl 23 _ hq Tryz.infoRes rfl (by simp [Value.oneCell']) ?_; intro W hW hWs hWo hW1 hW2 hW3)
 obtain ⟨s0, s1, s2, s3, s4⟩ := res_cells hW
 have HBN : Hid _ := below_new HB.out HLE.out hWs hWo hW1 hW2 hW3
 clear hW hWs hWo hW1 hW2 hW3 HB hq
 go_wp2
 refine bodyPost_ret (v := .tuple #[.agg #[.string S, .int .i64 a, .int .i64 b, .int .i64 c, .int .i64 d], .int .i64 E]) (by simp [results, Tryz.results32, go_sem, s0, s1, s2, s3, s4]) rfl ⟨rfl, HBN.out⟩
set_option maxRecDepth 100000 in
set_option maxHeartbeats 4000000 in
theorem leaseEval_ok (s : ByteArray) (fuel : Int) (w : World) (e : PT) (y : Nat) (S : ByteArray) (a b c d E : Int) (hrd : ∀ w, Calls Tryz.prog 31 #[.string s] w fun v w' => ∃ x1 n1 c1 x2 n2 c2 ns, v = .returned (.tuple #[treeV (.slice x1 n1 c1) (.slice x2 n2 c2), .int .i64 0, .int .i64 y]) ∧ Below w.heap.size w w' ∧ TreeIn w' (.slice x1 n1 c1) (.slice x2 n2 c2) ns (opn e 0) ∧ NA [] e 0 ns)
  (hrn : ∀ (w' : World) (x1 : Option Addr) (n1 c1 : Nat) (x2 : Option Addr) (n2 c2 : Nat) (ns : List NR), Below w.heap.size w w' → TreeIn w' (.slice x1 n1 c1) (.slice x2 n2 c2) ns (opn e 0) → NA [] e 0 ns → Calls Tryz.prog 32 #[treeV (.slice x1 n1 c1) (.slice x2 n2 c2), .int .i64 fuel] w' fun v w'' => v = .returned (.tuple #[.agg #[.string S, .int .i64 a, .int .i64 b, .int .i64 c, .int .i64 d], .int .i64 E]) ∧ Below w'.heap.size w' w'') :
  Calls Tryz.prog 12 #[.string s, .int .i64 fuel] w fun v w' => v = .returned (.tuple #[.agg #[.string S, .int .i64 a, .int .i64 b, .int .i64 c, .int .i64 d], .int .i64 E]) ∧ Below w.heap.size w w' := by
 unfold treeV at hrd hrn
 have HR : Hid _ := hrd
 have HN : Hid _ := hrn
 clear hrd hrn
 go_enter Tryz.func12, Tryz.ntmps12
 go_wp2_with fail
 refine (HR.out _).mono ?_
 rintro _ w1 ⟨x1, n1, c1, x2, n2, c2, ns, rfl, hb, hT, hna⟩
 have hq : w1.heap[w.heap.size]? = some (.cells #[.string ⟨#[]⟩, .int .i64 0, .int .i64 0, .int .i64 0, .int .i64 0] 23) := kept1 hb
 have hB := below1 hb
 obtain ⟨W2, hE2⟩ : ∃ W2, W2 = w1.alloc (.cells #[.slice x1 n1 c1, .slice x2 n2 c2] 59) := ⟨_, rfl⟩
 have hb2 : Below w1.heap.size w1 W2 := by rw [hE2]; exact below_al (Below.refl _ _) _
 have hrn2 := HN.out W2 x1 n1 c1 x2 n2 c2 ns (hB.trans (hb2.mono hB.size)) (hT.below hb2) hna
 have HRN : Hid _ := hrn2
 have HB2 : Hid _ := hB.trans (hb2.mono hB.size)
 have HQ2 : Hid (W2.heap[w.heap.size]? = some (.cells #[.string ⟨#[]⟩, .int .i64 0, .int .i64 0, .int .i64 0, .int .i64 0] 23)) := by
  show W2.heap[w.heap.size]? = _
  rw [hb2.block _ (blk_lt hq)]; exact hq
 clear hb hT hna hq hB hb2 hrn2 HR HN
 go_wp2_with fail
 rw [← hE2]
 refine Calls.mono HRN.out ?_
 rintro _ w3 ⟨rfl, hb3⟩
 have hq3 : w3.heap[w.heap.size]? = some (.cells #[.string ⟨#[]⟩, .int .i64 0, .int .i64 0, .int .i64 0, .int .i64 0] 23) := by rw [hb3.block _ (blk_lt HQ2.out)]; exact HQ2.out
 have HB3 : Hid _ := HB2.out.trans (hb3.mono HB2.out.size)
 clear hb3 HRN HB2 HQ2 hE2
 go_wp2_with (refine st_row rfl 23 (.tmp 4) (.tmp 22) rfl w.heap.size #[.string S, .int .i64 a, .int .i64 b, .int .i64 c, .int .i64 d] rfl rfl 23 _ hq3 Tryz.infoRes rfl (by simp [Value.oneCell']) ?_; intro W hW hWs hWo hW1 hW2 hW3)
 obtain ⟨s0, s1, s2, s3, s4⟩ := res_cells hW
 have HBN : Hid _ := below_new HB3.out (Nat.le_refl _) hWs hWo hW1 hW2 hW3
 clear hW hWs hWo hW1 hW2 hW3 HB3 hq3
 go_wp2
 refine bodyPost_ret (v := .tuple #[.agg #[.string S, .int .i64 a, .int .i64 b, .int .i64 c, .int .i64 d], .int .i64 E]) (by simp [results, Tryz.results12, go_sem, s0, s1, s2, s3, s4]) rfl ⟨rfl, HBN.out⟩
theorem wants_noreg (k : Kw) : Wt.region ∉ wantsK k false := by cases k <;> decide
mutual
theorem PE.plain : ∀ {l : List Tk} {e : PT} {r : List Tk}, PE false l e r → (∀ t ∈ l, TkTame t) → (e.rgd ∧ NoNew e) ∧ ∀ t ∈ r, TkTame t
 | _, _, _, .num (t := t) h, ha => ⟨⟨by simp only [PT.rgd]; exact (ha t (by simp)).1 h, .num⟩, fun x hx => ha x (by simp [hx])⟩
 | _, _, _, .name (t := t) h, ha => ⟨⟨by simp [PT.rgd], .name⟩, fun x hx => ha x (by simp [hx])⟩
 | _, _, _, .node (k := k) _ _ h3 h4, ha => by
  have h := PW.plain h4 (wants_noreg k) (fun x hx => ha x (by simp [hx]))
  refine ⟨⟨by simp only [PT.rgd]; exact ⟨by rw [h.1]; decide, h.2.1⟩, .node (fun e => by subst e; exact h3 rfl) h.2.2.1⟩, h.2.2.2⟩
theorem PW.plain : ∀ {ws : List Wt} {l : List Tk} {nm rg : List UInt8} {kids : List PT} {r : List Tk}, PW false ws l nm rg kids r → Wt.region ∉ ws → (∀ t ∈ l, TkTame t) → rg = [] ∧ rgdL kids ∧ (∀ x ∈ kids, NoNew x) ∧ ∀ t ∈ r, TkTame t
 | _, _, _, _, _, _, .nil, _, ha => ⟨rfl, by simp [rgdL], by simp, ha⟩
 | _, _, _, _, _, _, .close _ h1, hn, ha => PW.plain h1 (fun h => hn (by simp [h])) (fun x hx => ha x (by simp [hx]))
 | _, _, _, _, _, _, .name _ h1, hn, ha => PW.plain h1 (fun h => hn (by simp [h])) (fun x hx => ha x (by simp [hx]))
 | _, _, _, _, _, _, .region _ h1, hn, ha => absurd (by simp) hn
 | _, _, _, _, _, _, .e h0 h1, hn, ha => by
  have a := PE.plain h0 ha
  have b := PW.plain h1 (fun h => hn (by simp [h])) a.2
  refine ⟨b.1, by simp only [rgdL]; exact ⟨a.1.1, b.2.1⟩, ?_, b.2.2.2⟩
  intro x hx
  rcases List.mem_cons.1 hx with rfl | hx
  ·exact a.1.2
  ·exact b.2.2.1 x hx
end
theorem evalV_agg (y : Vl × ESt) : ∃ S a b c d, evalV y = .agg #[.string S, .int .i64 a, .int .i64 b, .int .i64 c, .int .i64 d] := by
 unfold evalV; split
 ·exact ⟨_, _, _, _, _, rfl⟩
 ·exact ⟨_, _, _, _, _, rfl⟩
theorem chk_WT {e : PT} (hw : e.wf) (h : (chkAns e).1 = 0) : ∃ T, WT [] e T ∧ T.size ≤ 63 := by
 unfold chkAns at h
 split at h
 ·simp at h
 ·have := tyFind_WT (List.range e.prs) e 0 0 [] (st0 e) hw h
  exact ⟨_, this.2.2, by rw [bare_sizeE]; exact this.2.1⟩
theorem leaseEval_tree (s : ByteArray) (w : World) (hs : s.size ≤ 3000) (htab : Lib.TabIs Tryz.prog w "internal/strconv.uint64pow10" .u64 Lib.pow10Tab) (e : PT) (hp : PE false (tokens s.data.toList) e []) (hc : (chkAns e).1 = 0) (fuel : Nat) (hf : fuel ≤ 20000) :
  Calls Tryz.prog 12 #[.string s, .int .i64 fuel] w fun v w' => v = .returned (.tuple #[evalV (ev fuel e [] ⟨0, 0, 0⟩), .int .i64 (ev fuel e [] ⟨0, 0, 0⟩).2.e]) ∧ Below w.heap.size w w' := by
 have hwf := hp.wf
 have hpl := (hp.plain (tokens_tame _)).1
 have hcnt := Study_len hp
 obtain ⟨T, hwt, hT⟩ := chk_WT hwf hc
 obtain ⟨S, a, b, c, d, hV⟩ := evalV_agg (ev fuel e [] ⟨0, 0, 0⟩)
 rw [hV]
 refine leaseEval_ok s fuel w e (chkAns e).2 S a b c d _ (fun w => ?_) (fun w' x1 n1 c1 x2 n2 c2 ns hb hTr hna => ?_)
 ·have := readPlain_full s w hs e hp
  rw [hc] at this
  exact this
 ·have hnl := hna.len
  refine run_ok w' x1 n1 c1 x2 n2 c2 fuel hf S a b c d _ (fun w'' hb'' => ?_)
  obtain ⟨X, hX, hXs, hrv, hfl⟩ := run_plain fuel ns.length hwt hT hpl.2 hpl.1 (by omega)
  have := Run_any x1 n1 c1 x2 n2 c2 fuel ns (opn e 0) hf (by omega) w'' (hTr.below hb'') (Lib.tabBelow_of_tabIs htab w'' (hb.trans (hb''.mono hb.size))) e hna.showsM0 hwf hpl.1 hnl.symm _ rfl X hX hXs
  rw [hrv, hfl, hV] at this
  exact this
theorem leaseCheck_any (s : ByteArray) (w : World) (x y : Nat) (hrd : ∀ w, Calls Tryz.prog 31 #[.string s] w fun v w' => ∃ x1 n1 c1 x2 n2 c2, v = .returned (.tuple #[treeV (.slice x1 n1 c1) (.slice x2 n2 c2), .int .i64 x, .int .i64 y]) ∧ Below w.heap.size w w') :
  Calls Tryz.prog 25 #[.string s] w fun v w' => v = .returned (.tuple #[.int .i64 x, .int .i64 y]) ∧ Below w.heap.size w w' := by
 unfold treeV at hrd
 go_enter Tryz.func25, Tryz.ntmps25
 go_wp2_with fail
 refine (hrd _).mono ?_
 rintro _ w1 ⟨x1, n1, c1, x2, n2, c2, rfl, hb⟩
 have HB : Hid _ := hb
 clear hb hrd
 go_wp2
 refine bodyPost_ret (v := .tuple #[.int .i64 x, .int .i64 y]) (by simp [results, Tryz.results25, go_sem]) rfl ⟨rfl, HB.out.alloc HB.out.size _⟩
open Go.Lib (decDigits)
theorem built_PE {placed : Bool} {rg : List UInt8} (hr : RgOk placed rg) {x : KE} {t : Nat} (h : KT [] x t) (hp : x.prs ≤ 100) :
  ∃ e, PE placed (tokens (x.pt rg).tidy) e [] ∧ chkAns e = (0, 0) ∧ e.np = x.pt rg ∧ ∀ fuel env st, ev fuel e env st = ev fuel (x.pt []) env st := by
 obtain ⟨e, he, hnp⟩ := tidy_PE (x.pt rg) (pt_ok hr h)
 rw [pt_np] at hnp
 have hwt : WT [] (x.pt rg) (tyZ t) := pt_WT (rg := rg) h (by simp)
 refine ⟨e, he, chk_ok (np_WT e (by rw [hnp]; exact hwt)) ?_, hnp, fun fuel env st => ?_⟩
 ·rw [← np_prs, hnp, pt_prs rg h]; exact hp
 ·rw [← np_ev, hnp, rg_ev]
set_option maxRecDepth 100000 in
theorem ksame_any (S : ByteArray) (a b c d : Int) (w : World) : Calls Tryz.prog 27 #[.agg #[.string S, .int .i64 a, .int .i64 b, .int .i64 c, .int .i64 d], .agg #[.string S, .int .i64 a, .int .i64 b, .int .i64 c, .int .i64 d]] w fun v w' => v = .returned (.bool true) ∧ Below w.heap.size w w' := by
 have q0 : (S.toList == S.toList) = true := by simp
 have q1 : (a == a) = true := by simp
 have q2 : (b == b) = true := by simp
 have q3 : (c == c) = true := by simp
 have q4 : (d == d) = true := by simp
 go_enter Tryz.func27, Tryz.ntmps27
 go_wp2
 go_ret
 exact ⟨rfl, ((Below.refl _ w).alloc (Nat.le_refl _) _).alloc (by simp) _⟩
theorem findS_snocO (sc : Sc) (nm : List UInt8) (i : Int) (s : List UInt8) : findS (sc ++ [(nm, i)]) s = if nm = s then i else findS sc s := by
 unfold findS
 rw [List.reverse_append, List.reverse_singleton, List.singleton_append, List.find?_cons]
 by_cases h : nm = s
 ·subst h; simp
 ·have : (nm == s) = false := by rw [beq_eq_false_iff_ne]; exact h
  simp only [this, if_neg h]
def wrapN : List Int → Nat → Int → PT → PT
 | [], _, _, t => t
 | a :: l, r, i, t => if a = i then .node 0 .new [] (35 :: decDigits r) [wrapN l (r + 1) i t] else wrapN l (r + 1) i t
def rgW (regs : List Int) (i : Nat) : List UInt8 := if rgV regs i = -1 then [] else 35 :: decDigits (rgV regs i).toNat
mutual
def PT.lay0 (regs news : List Int) : PT → Nat → PT
 | .num _ s, _ => .num 0 (decDigits (valueL s).toNat)
 | .name _ s, _ => .name 0 s
 | .node _ k nm _ kids, b => .node 0 k nm (rgW regs (b + cntL kids)) (layL regs news kids b)
def layL (regs news : List Int) : List PT → Nat → List PT
 | [], _ => []
 | t :: r, b => wrapN news 0 ((b + t.cnt : Nat) - 1 : Int) (PT.lay0 regs news t b) :: layL regs news r (b + t.cnt)
end
def PT.lay (regs news : List Int) (t : PT) (b : Nat) : PT := wrapN news 0 ((b + t.cnt : Nat) - 1 : Int) (t.lay0 regs news b)
theorem regT_rgW (regs : List Int) (i : Nat) : regT (rgW regs i) = rgT regs i := by
 unfold rgW rgT regT
 split
 ·rfl
 ·simp
theorem wrapN_tidy (i : Int) (t : PT) : ∀ (l : List Int) (r : Nat), (wrapN l r i t).tidy = opT l r i ++ (t.tidy ++ List.replicate (clN l i) 41)
 | [], r => by simp [wrapN, opT, clN]
 | a :: l, r => by
  have ih := wrapN_tidy i t l (r + 1)
  simp only [wrapN, opT]
  by_cases h : a = i
  ·have hc : clN (a :: l) i = clN l i + 1 := by unfold clN; simp [h]
   rw [if_pos h, if_pos h, hc]
   simp only [PT.tidy, tidyL, joinT, pieceT, ih, regT, Kw.bytes, opR]
   simp [List.replicate_succ', List.append_assoc]
  ·have hc : clN (a :: l) i = clN l i := by unfold clN; simp [h]
   rw [if_neg h, if_neg h, hc, ih]; rfl
mutual
theorem lay0_tidy (regs news : List Int) : ∀ (t : PT) (b : Nat), NoNew t → (t.lay0 regs news b).tidy = t.ftx regs news b
 | .num _ _, _, _ => rfl
 | .name _ _, _, _ => rfl
 | .node _ k nm _ kids, b, h => by
  cases h with
  | node hk h =>
   simp only [PT.lay0, PT.tidy, PT.ftx, if_neg hk, regT_rgW, layL_tidy regs news kids b h]
theorem layL_tidy (regs news : List Int) : ∀ (ts : List PT) (b : Nat), (∀ x ∈ ts, NoNew x) → tidyL (layL regs news ts b) = wtxL regs news ts b
 | [], _, _ => rfl
 | t :: r, b, h => by
  simp only [layL, tidyL, wtxL, wrapN_tidy, lay0_tidy regs news t b (h t (by simp)), layL_tidy regs news r (b + t.cnt) (fun x hx => h x (by simp [hx])), clT]
end
theorem lay_tidy (regs news : List Int) (t : PT) (b : Nat) (h : NoNew t) : (t.lay regs news b).tidy = t.wtx regs news b := by
 unfold PT.lay PT.wtx
 rw [wrapN_tidy, lay0_tidy regs news t b h]; rfl
def LyT (regs : List Int) (ns : List NR) : Prop := ∀ (i : Nat) (n : NR), ns[i]? = some n → (n.form = 4 → 0 ≤ rgV regs i ∧ rgV regs i ≤ 999) ∧ (n.form ≠ 4 → rgV regs i = -1)
theorem form4 (k : Kw) : formK k = 4 ↔ k = .pair := by cases k <;> decide
theorem wrapN_np (i : Int) (t : PT) : ∀ (l : List Int) (r : Nat), (wrapN l r i t).np = wrapN l r i t.np
 | [], _ => rfl
 | a :: l, r => by
  simp only [wrapN]
  split
  ·simp only [PT.np, npL, wrapN_np i t l (r + 1)]
  ·exact wrapN_np i t l (r + 1)
mutual
theorem lay0_np (regs news : List Int) : ∀ (t : PT) (b : Nat), (t.lay0 regs news b).np = t.lay0 regs news b
 | .num _ _, _ => rfl
 | .name _ _, _ => rfl
 | .node _ k nm _ kids, b => by simp only [PT.lay0, PT.np, layL_np regs news kids b]
theorem layL_np (regs news : List Int) : ∀ (ts : List PT) (b : Nat), npL (layL regs news ts b) = layL regs news ts b
 | [], _ => rfl
 | t :: r, b => by simp only [layL, npL, wrapN_np, lay0_np regs news t b, layL_np regs news r]
end
theorem lay_np (regs news : List Int) (t : PT) (b : Nat) : (t.lay regs news b).np = t.lay regs news b := by unfold PT.lay; rw [wrapN_np, lay0_np]
theorem wrapN_ok (i : Int) (t : PT) (h : t.ok true) : ∀ (l : List Int) (r : Nat), r + l.length ≤ 999 → (wrapN l r i t).ok true
 | [], _, _ => h
 | a :: l, r, hr => by
  simp only [List.length_cons] at hr
  have ih := wrapN_ok i t h l (r + 1) (by omega)
  simp only [wrapN]
  split
  ·simp only [PT.ok, okL]
   refine ⟨by simp [wantsK], rfl, by simp, ?_, ih, trivial⟩
   rw [if_pos ⟨trivial, Or.inr trivial⟩]
   exact ⟨decDigits r, rfl, dec_good r 3 (dec_len3 r (by omega))⟩
  ·exact ih
theorem layL_len (regs news : List Int) : ∀ (ts : List PT) (b : Nat), (layL regs news ts b).length = ts.length
 | [], _ => rfl
 | t :: r, b => by simp [layL, layL_len regs news r]
mutual
theorem lay0_ok {regs news : List Int} {ns : List NR} (H : LyT regs ns) (hn : news.length ≤ 999) : ∀ (t : PT) (b : Nat), Shows ns t b → t.tame → t.ok false → (t.lay0 regs news b).ok true
 | .num _ s, _, _, ht, h => by
  simp only [PT.tame] at ht
  simp only [PT.lay0, PT.ok]
  exact dec_good _ 4 (dec_len4 _ (by omega))
 | .name _ s, _, _, _, h => by simpa [PT.lay0, PT.ok] using h
 | .node _ k nm rg kids, b, hs, ht, h => by
  simp only [PT.tame] at ht
  simp only [Shows] at hs
  obtain ⟨⟨n, hn1, hf, _⟩, hks⟩ := hs
  simp only [PT.ok] at h
  obtain ⟨h1, h2, h3, h4, h5⟩ := h
  have hH := H _ _ hn1
  have hf4 := form4 k
  rw [← hf] at hf4
  have hkn : k ≠ .new := fun e => by rw [e] at h1; simp [wantsK] at h1
  simp only [PT.lay0, PT.ok]
  refine ⟨by cases k <;> simp [wantsK] at h1 ⊢, by rw [layL_len]; exact h2, h3, ?_, layL_ok H hn kids b hks ht.2 h5⟩
  by_cases hp : k = .pair
  ·have := hH.1 (hf4.2 hp)
   rw [if_pos ⟨trivial, Or.inl hp⟩]
   unfold rgW
   rw [if_neg (by omega)]
   exact ⟨_, rfl, dec_good _ 3 (dec_len3 _ (by omega))⟩
  ·rw [if_neg (by simp [hp, hkn])]
   unfold rgW
   rw [if_pos (hH.2 (fun e => hp (hf4.1 e)))]
theorem layL_ok {regs news : List Int} {ns : List NR} (H : LyT regs ns) (hn : news.length ≤ 999) : ∀ (ts : List PT) (b : Nat), ShowsL ns ts b → tameL ts → okL false ts → okL true (layL regs news ts b)
 | [], _, _, _, _ => by simp [layL, okL]
 | t :: r, b, hs, ht, h => by
  simp only [ShowsL] at hs
  simp only [tameL] at ht
  simp only [okL] at h
  simp only [layL, okL]
  exact ⟨wrapN_ok _ _ (lay0_ok H hn t b hs.1 ht.1 h.1) news 0 (by omega), layL_ok H hn r _ hs.2 ht.2 h.2⟩
end
theorem lay_ok {regs news : List Int} {ns : List NR} (H : LyT regs ns) (hn : news.length ≤ 999) (t : PT) (b : Nat) (hs : Shows ns t b) (ht : t.tame) (h : t.ok false) : (t.lay regs news b).ok true := wrapN_ok _ _ (lay0_ok H hn t b hs ht h) news 0 (by omega)
structure Lay2 (regs news : List Int) (ns : List NR) (T2 : List Ty) : Prop where
 ty : ∀ i n, ns[i]? = some n → knownT T2 (i : Nat) = tyR T2 (setR n (rgV regs i))
 pr : LyT regs ns
 one : ∀ (i : Nat) n, ns[i]? = some n → n.form = 7 ∨ n.form = 11 → knownT T2 n.p1 = knownT T2 n.p2
 nw : ∀ r i : Nat, news[r]? = some (i : Int) → (knownT T2 i).has r = false
theorem at_root {ns pre ks post : List NR} {n : NR} (h : ns = pre ++ ((ks ++ [n]) ++ post)) : ns[pre.length + ks.length]? = some n := by
 rw [h]
 exact at_mid pre _ post ks.length n (by rw [List.getElem?_append_right (Nat.le_refl _), Nat.sub_self]; rfl)
theorem idx_cnt (b c : Nat) : (((b + (1 + c) : Nat) : Int) - 1) = ((b + c : Nat) : Int) := by omega
theorem knownT_pre {T X : List Ty} {p : Int} (h : p < T.length) : knownT (T ++ X) p = knownT T p := by
 unfold knownT
 split
 ·rw [List.getElem?_append_left (by omega)]
 ·rfl
theorem run_pre : ∀ (ns : List NR) (T : List Ty), ∃ X, tyRun T ns = T ++ X ∧ X.length = ns.length
 | [], T => ⟨[], by simp [tyRun], rfl⟩
 | n :: r, T => by
  obtain ⟨X, h1, h2⟩ := run_pre r (T ++ [tyR T n])
  exact ⟨tyR T n :: X, by simp only [tyRun, h1, List.append_assoc, List.singleton_append], by simp [h2]⟩
def BackN (k : Nat) (n : NR) : Prop := n.p0 < k ∧ n.p1 < k ∧ n.p2 < k ∧ n.source < k
theorem tyR_pre {T X : List Ty} {n : NR} (h : BackN T.length n) : tyR (T ++ X) n = tyR T n := by
 unfold tyR
 rw [knownT_pre h.1, knownT_pre h.2.1, knownT_pre h.2.2.2]
theorem run_fix : ∀ (ns : List NR) (T : List Ty), (∀ (i : Nat) n, ns[i]? = some n → BackN (T.length + i) n) → ∀ (i : Nat) n, ns[i]? = some n → knownT (tyRun T ns) ((T.length + i : Nat) : Int) = tyR (tyRun T ns) n
 | [], _, _, i, n, h => by simp at h
 | m :: r, T, hb, i, n, h => by
  simp only [tyRun]
  cases i with
  | zero =>
   simp only [List.getElem?_cons_zero, Option.some.injEq] at h
   subst h
   obtain ⟨X, h1, _⟩ := run_pre r (T ++ [tyR T m])
   have hbm : BackN T.length m := by simpa using hb 0 m (by simp)
   rw [h1, List.append_assoc, tyR_pre hbm]
   unfold knownT
   rw [if_pos (by omega), Int.toNat_natCast, Nat.add_zero, List.getElem?_append_right (Nat.le_refl _), Nat.sub_self]; rfl
  | succ j =>
   have := run_fix r (T ++ [tyR T m]) (fun k x hx => by have := hb (k + 1) x (by simpa using hx); rw [List.length_append, List.length_singleton]; rwa [show T.length + 1 + k = T.length + (k + 1) by omega]) j n (by simpa using h)
   rw [List.length_append, List.length_singleton, show T.length + 1 + j = T.length + (j + 1) by omega] at this
   exact this
theorem alike_rec : ∀ (ns : List NR) (T : List Ty), (∀ (i : Nat) n, ns[i]? = some n → BackN (T.length + i) n) → (∀ (i : Nat) n, ns[i]? = some n → n.form = 7 ∨ n.form = 11 → (knownT (tyRun T ns) n.p1).bare = (knownT (tyRun T ns) n.p2).bare) → AlikeT T ns
 | [], _, _, _ => trivial
 | m :: r, T, hb, ha => by
  obtain ⟨X, h1, _⟩ := run_pre r (T ++ [tyR T m])
  have hbm : BackN T.length m := by simpa using hb 0 m (by simp)
  simp only [AlikeT]
  refine ⟨fun hf => ?_, alike_rec r _ (fun k x hx => ?_) (fun k x hx => ?_)⟩
  ·have := ha 0 m (by simp) hf
   simp only [tyRun] at this
   rw [h1, List.append_assoc, knownT_pre hbm.2.1, knownT_pre hbm.2.2.1] at this
   rw [knownT_pre hbm.2.1, knownT_pre hbm.2.2.1]; exact this
  ·have := hb (k + 1) x (by simpa using hx)
   rw [List.length_append, List.length_singleton, show T.length + 1 + k = T.length + (k + 1) by omega]; exact this
  ·have := ha (k + 1) x (by simpa using hx)
   simp only [tyRun] at this; exact this
theorem one_rec (c : Nat → Nat) : ∀ (ns : List NR) (T : List Ty), (∀ (i : Nat) n, ns[i]? = some n → BackN (T.length + i) n) → OneT c T ns → ∀ (i : Nat) n, ns[i]? = some n → n.form = 7 ∨ n.form = 11 → mapT c (knownT (tyRun T ns) n.p1) = mapT c (knownT (tyRun T ns) n.p2)
 | [], _, _, _, i, n, h => by simp at h
 | m :: r, T, hb, ho, i, n, h => by
  obtain ⟨X, h1, _⟩ := run_pre r (T ++ [tyR T m])
  have hbm : BackN T.length m := by simpa using hb 0 m (by simp)
  simp only [OneT] at ho
  simp only [tyRun]
  cases i with
  | zero =>
   simp only [List.getElem?_cons_zero, Option.some.injEq] at h
   subst h
   intro hf
   have := ho.1 hf
   rw [knownT_pre hbm.2.1, knownT_pre hbm.2.2.1] at this
   rw [h1, List.append_assoc, knownT_pre hbm.2.1, knownT_pre hbm.2.2.1]; exact this
  | succ j =>
   exact one_rec c r _ (fun k x hx => by have := hb (k + 1) x (by simpa using hx); rw [List.length_append, List.length_singleton, show T.length + 1 + k = T.length + (k + 1) by omega]; exact this) ho.2 j n (by simpa using h)
theorem sz_rec : ∀ (ns : List NR) (T : List Ty), (∀ (i : Nat) n, ns[i]? = some n → BackN (T.length + i) n) → (∀ (i : Nat) n, ns[i]? = some n → n.form = 4 → (Ty.p 0 (knownT (tyRun T ns) n.p0) (knownT (tyRun T ns) n.p1)).size ≤ 63) → SzOk T ns
 | [], _, _, _ => trivial
 | m :: r, T, hb, ha => by
  obtain ⟨X, h1, _⟩ := run_pre r (T ++ [tyR T m])
  have hbm : BackN T.length m := by simpa using hb 0 m (by simp)
  simp only [SzOk]
  refine ⟨fun hf => ?_, sz_rec r _ (fun k x hx => ?_) (fun k x hx => ?_)⟩
  ·have := ha 0 m (by simp) hf
   simp only [tyRun] at this
   rw [h1, List.append_assoc, knownT_pre hbm.1, knownT_pre hbm.2.1] at this
   exact this
  ·have := hb (k + 1) x (by simpa using hx)
   rw [List.length_append, List.length_singleton, show T.length + 1 + k = T.length + (k + 1) by omega]; exact this
  ·have := ha (k + 1) x (by simpa using hx)
   simp only [tyRun] at this; exact this
def EnvB (T : List Ty) (G : TEnv) (sc : Sc) : Prop := ∀ s U, look G s = some U → ∃ i : Nat, findS sc s = (i : Int) ∧ (knownT T i).bare = U
theorem EnvB.snoc {T : List Ty} {G : TEnv} {sc : Sc} {nm : List UInt8} {U : Ty} {z : Int} (h : EnvB T G sc) (hz : 0 ≤ z) (hu : (knownT T z).bare = U) : EnvB T (G ++ [(nm, U)]) (sc ++ [(nm, z)]) := fun s V hs => by
 rw [look_snoc'] at hs
 rw [findS_snocO]
 by_cases e : nm = s
 ·rw [if_pos e] at hs ⊢
  simp only [Option.some.injEq] at hs
  subst hs
  exact ⟨z.toNat, by omega, by rw [Int.toNat_of_nonneg hz]; exact hu⟩
 ·rw [if_neg e] at hs ⊢
  exact h s V hs
def AlkO (T : List Ty) (ns : List NR) (lo hi : Nat) : Prop := ∀ (i : Nat) n, lo ≤ i → i < hi → ns[i]? = some n → (n.form = 7 ∨ n.form = 11 → (knownT T n.p1).bare = (knownT T n.p2).bare) ∧ (n.form = 4 → (Ty.p 0 (knownT T n.p0) (knownT T n.p1)).size ≤ 63)
theorem AlkO.join {T : List Ty} {ns : List NR} {a b c : Nat} (h : AlkO T ns a b) (g : AlkO T ns b c) : AlkO T ns a c := fun i n h1 h2 hn => by
 by_cases e : i < b
 ·exact h i n h1 e hn
 ·exact g i n (by omega) h2 hn
theorem AlkO.root {T : List Ty} {ns : List NR} {k : Nat} {n : NR} (hn : ns[k]? = some n) (h1 : n.form = 7 ∨ n.form = 11 → (knownT T n.p1).bare = (knownT T n.p2).bare) (h2 : n.form = 4 → (Ty.p 0 (knownT T n.p0) (knownT T n.p1)).size ≤ 63) : AlkO T ns k (k + 1) := fun i m a b hm => by
 have : i = k := by omega
 subst this
 rw [hn] at hm
 simp only [Option.some.injEq] at hm
 subst hm
 exact ⟨h1, h2⟩
theorem idx_nn (b : Nat) (t : PT) : (0 : Int) ≤ ((b + t.cnt : Nat) : Int) - 1 := by have := cnt_pos' t; omega
theorem wt_alike {ns : List NR} {T : List Ty} {ρ : Nat → Int} (H : ∀ i n, ns[i]? = some n → knownT T (i : Nat) = tyR T (setR n (ρ i))) {G : TEnv} {e : PT} {U : Ty} (h : WT G e U) : NoNew e → ∀ (sc : Sc) (b : Nat) (pre ms post : List NR), NA sc e b ms → ns = pre ++ (ms ++ post) → pre.length = b → EnvB T G sc →
  (knownT T (((b + e.cnt : Nat) : Int) - 1)).bare = U ∧ AlkO T ns b (b + e.cnt) := by
 induction h with
 | @num G p s =>
  intro _ sc b pre ms post hna hns hb hE
  simp only [NA] at hna
  subst hna
  have hn := at_root (ks := []) hns
  rw [hb] at hn
  have hty := H _ _ hn
  simp only [List.length_nil, Nat.add_zero] at hn hty
  simp only [PT.cnt, show (((b + 1 : Nat) : Int) - 1) = (b : Int) by omega]
  rw [hty]
  exact ⟨by simp [tyR, setR, Ty.bare], AlkO.root hn (by simp) (by simp)⟩
 | @name G p s U hs =>
  intro _ sc b pre ms post hna hns hb hE
  simp only [NA] at hna
  subst hna
  have hn := at_root (ks := []) hns
  rw [hb] at hn
  have hty := H _ _ hn
  simp only [List.length_nil, Nat.add_zero] at hn hty
  obtain ⟨i, h1, h2⟩ := hE _ _ hs
  simp only [PT.cnt, show (((b + 1 : Nat) : Int) - 1) = (b : Int) by omega]
  rw [hty]
  exact ⟨by simp [tyR, setR, h1, h2], AlkO.root hn (by simp) (by simp)⟩
 | @let_ G p nm rg a b UA UB ha hb iha ihb =>
  intro hn sc bs pre ms post hna hns hbs hE
  cases hn with
  | node _ hn =>
  simp only [NA, bodK, NAs, Bool.false_eq_true, if_false, if_true] at hna
  obtain ⟨ks, beh, ⟨a1, c1, hn1, ⟨a2, c2, hn2, ⟨_, rfl⟩, rfl⟩, rfl⟩, rfl⟩ := hna
  rw [List.append_nil] at hns
  have la := NA.len hn1
  have lb := NA.len hn2
  have hroot := at_root hns
  rw [hbs, List.length_append, la, lb] at hroot
  have hty := H _ _ hroot
  obtain ⟨hba, oa⟩ := iha (hn _ (by simp)) sc bs pre a1 (a2 ++ ([_] ++ post)) hn1 (by rw [hns]; simp only [List.append_assoc]; rfl) hbs hE
  obtain ⟨hbb, ob⟩ := ihb (hn _ (by simp)) _ (bs + a.cnt) (pre ++ a1) a2 ([_] ++ post) hn2 (by rw [hns]; simp only [List.append_assoc]; rfl) (by rw [List.length_append, hbs, la]) (hE.snoc (idx_nn bs a) hba)
  simp only [PT.cnt, cntL, Nat.add_zero, idx_cnt]
  refine ⟨?_, ?_⟩
  ·rw [hty]
   simp only [tyR, setR, fk_let, partsL, List.getD_cons_succ, List.getD_cons_zero]
   simpa using hbb
  ·have := (oa.join ob).join (AlkO.root (by rw [Nat.add_assoc]; exact hroot) (by simp [fk_let]) (by simp [fk_let]))
   rwa [show bs + a.cnt + b.cnt + 1 = bs + (1 + (a.cnt + b.cnt)) by omega] at this
 | @pair G p nm rg a b UA UB ha hb hsz iha ihb =>
  intro hn sc bs pre ms post hna hns hbs hE
  cases hn with
  | node _ hn =>
  simp only [NA, bodK, NAs, Bool.false_eq_true, if_false] at hna
  obtain ⟨ks, beh, ⟨a1, c1, hn1, ⟨a2, c2, hn2, ⟨_, rfl⟩, rfl⟩, rfl⟩, rfl⟩ := hna
  rw [List.append_nil] at hns
  have la := NA.len hn1
  have lb := NA.len hn2
  have hroot := at_root hns
  rw [hbs, List.length_append, la, lb] at hroot
  have hty := H _ _ hroot
  obtain ⟨hba, oa⟩ := iha (hn _ (by simp)) sc bs pre a1 (a2 ++ ([_] ++ post)) hn1 (by rw [hns]; simp only [List.append_assoc]; rfl) hbs hE
  obtain ⟨hbb, ob⟩ := ihb (hn _ (by simp)) sc (bs + a.cnt) (pre ++ a1) a2 ([_] ++ post) hn2 (by rw [hns]; simp only [List.append_assoc]; rfl) (by rw [List.length_append, hbs, la]) hE
  simp only [PT.cnt, cntL, Nat.add_zero, idx_cnt]
  refine ⟨?_, ?_⟩
  ·rw [hty]
   simp only [tyR, setR, fk_pair, partsL, List.getD_cons_succ, List.getD_cons_zero]
   simp only [Nat.reduceEqDiff, if_false, if_true, Ty.bare, hba, hbb]
  ·have hs2 : (Ty.p 0 (knownT T (((bs + a.cnt : Nat) : Int) - 1)) (knownT T (((bs + a.cnt + b.cnt : Nat) : Int) - 1))).size ≤ 63 := by
    rw [← bare_sizeE]
    simp only [Ty.bare, hba, hbb]
    exact hsz
   have := (oa.join ob).join (AlkO.root (by rw [Nat.add_assoc]; exact hroot) (by simp [fk_pair]) (fun _ => by simpa only [partsL, List.getD_cons_succ, List.getD_cons_zero] using hs2))
   rwa [show bs + a.cnt + b.cnt + 1 = bs + (1 + (a.cnt + b.cnt)) by omega] at this
 | @fst G p nm rg a UA UB ha iha =>
  intro hn sc bs pre ms post hna hns hbs hE
  cases hn with
  | node _ hn =>
  simp only [NA, bodK, NAs, Bool.false_eq_true, if_false] at hna
  obtain ⟨ks, beh, ⟨a1, c1, hn1, ⟨_, rfl⟩, rfl⟩, rfl⟩ := hna
  rw [List.append_nil] at hns
  have la := NA.len hn1
  have hroot := at_root hns
  rw [hbs, la] at hroot
  have hty := H _ _ hroot
  obtain ⟨hba, oa⟩ := iha (hn _ (by simp)) sc bs pre a1 ([_] ++ post) hn1 (by rw [hns]; simp only [List.append_assoc]; rfl) hbs hE
  simp only [PT.cnt, cntL, Nat.add_zero, idx_cnt]
  obtain ⟨r, u, v, hp, hu, hv⟩ := bare_pair hba
  refine ⟨?_, ?_⟩
  ·rw [hty]
   simp only [tyR, setR, fk_fst, partsL, List.getD_cons_succ, List.getD_cons_zero]
   simp only [Nat.reduceEqDiff, if_false, if_true]
   rw [hp]; exact hu
  ·have := oa.join (AlkO.root hroot (by simp [fk_fst]) (by simp [fk_fst]))
   rwa [show bs + a.cnt + 1 = bs + (1 + a.cnt) by omega] at this
 | @snd G p nm rg a UA UB ha iha =>
  intro hn sc bs pre ms post hna hns hbs hE
  cases hn with
  | node _ hn =>
  simp only [NA, bodK, NAs, Bool.false_eq_true, if_false] at hna
  obtain ⟨ks, beh, ⟨a1, c1, hn1, ⟨_, rfl⟩, rfl⟩, rfl⟩ := hna
  rw [List.append_nil] at hns
  have la := NA.len hn1
  have hroot := at_root hns
  rw [hbs, la] at hroot
  have hty := H _ _ hroot
  obtain ⟨hba, oa⟩ := iha (hn _ (by simp)) sc bs pre a1 ([_] ++ post) hn1 (by rw [hns]; simp only [List.append_assoc]; rfl) hbs hE
  simp only [PT.cnt, cntL, Nat.add_zero, idx_cnt]
  obtain ⟨r, u, v, hp, hu, hv⟩ := bare_pair hba
  refine ⟨?_, ?_⟩
  ·rw [hty]
   simp only [tyR, setR, fk_snd, partsL, List.getD_cons_succ, List.getD_cons_zero]
   simp only [Nat.reduceEqDiff, if_false, if_true]
   rw [hp]; exact hv
  ·have := oa.join (AlkO.root hroot (by simp [fk_snd]) (by simp [fk_snd]))
   rwa [show bs + a.cnt + 1 = bs + (1 + a.cnt) by omega] at this
 | @if_ G p nm rg a b c U ha hb hc iha ihb ihc =>
  intro hn sc bs pre ms post hna hns hbs hE
  cases hn with
  | node _ hn =>
  simp only [NA, bodK, NAs, Bool.false_eq_true, if_false] at hna
  obtain ⟨ks, beh, ⟨a1, c1, hn1, ⟨a2, c2, hn2, ⟨a3, c3, hn3, ⟨_, rfl⟩, rfl⟩, rfl⟩, rfl⟩, rfl⟩ := hna
  rw [List.append_nil] at hns
  have la := NA.len hn1
  have lb := NA.len hn2
  have lc := NA.len hn3
  have hroot := at_root hns
  rw [hbs, List.length_append, List.length_append, la, lb, lc] at hroot
  have hty := H _ _ hroot
  obtain ⟨hba, oa⟩ := iha (hn _ (by simp)) sc bs pre a1 (a2 ++ (a3 ++ ([_] ++ post))) hn1 (by rw [hns]; simp only [List.append_assoc]; rfl) hbs hE
  obtain ⟨hbb, ob⟩ := ihb (hn _ (by simp)) sc (bs + a.cnt) (pre ++ a1) a2 (a3 ++ ([_] ++ post)) hn2 (by rw [hns]; simp only [List.append_assoc]; rfl) (by rw [List.length_append, hbs, la]) hE
  obtain ⟨hbc, oc⟩ := ihc (hn _ (by simp)) sc (bs + a.cnt + b.cnt) (pre ++ a1 ++ a2) a3 ([_] ++ post) hn3 (by rw [hns]; simp only [List.append_assoc]; rfl) (by rw [List.length_append, List.length_append, hbs, la, lb]) hE
  simp only [PT.cnt, cntL, Nat.add_zero, idx_cnt]
  refine ⟨?_, ?_⟩
  ·rw [hty]
   simp only [tyR, setR, fk_if, partsL, List.getD_cons_succ, List.getD_cons_zero]
   simpa using hbb
  ·have := ((oa.join ob).join oc).join (AlkO.root (by rw [Nat.add_assoc, Nat.add_assoc]; exact hroot) (fun _ => by simp only [partsL, List.getD_cons_succ, List.getD_cons_zero]; rw [hbb, hbc]) (by simp [fk_if]))
   rwa [show bs + a.cnt + b.cnt + c.cnt + 1 = bs + (1 + (a.cnt + (b.cnt + c.cnt))) by omega] at this
 | @two G p k nm rg a b hkk ha hb iha ihb =>
  intro hn sc bs pre ms post hna hns hbs hE
  have hkb : bodK k = [false, false] := by rcases hkk with rfl | rfl | rfl <;> rfl
  have hkf : formK k = 8 ∨ formK k = 9 ∨ formK k = 10 := by rcases hkk with rfl | rfl | rfl <;> decide
  cases hn with
  | node _ hn =>
  simp only [NA, hkb, NAs, Bool.false_eq_true, if_false] at hna
  obtain ⟨ks, beh, ⟨a1, c1, hn1, ⟨a2, c2, hn2, ⟨_, rfl⟩, rfl⟩, rfl⟩, rfl⟩ := hna
  rw [List.append_nil] at hns
  have la := NA.len hn1
  have lb := NA.len hn2
  have hroot := at_root hns
  rw [hbs, List.length_append, la, lb] at hroot
  have hty := H _ _ hroot
  obtain ⟨hba, oa⟩ := iha (hn _ (by simp)) sc bs pre a1 (a2 ++ ([_] ++ post)) hn1 (by rw [hns]; simp only [List.append_assoc]; rfl) hbs hE
  obtain ⟨hbb, ob⟩ := ihb (hn _ (by simp)) sc (bs + a.cnt) (pre ++ a1) a2 ([_] ++ post) hn2 (by rw [hns]; simp only [List.append_assoc]; rfl) (by rw [List.length_append, hbs, la]) hE
  simp only [PT.cnt, cntL, Nat.add_zero, idx_cnt]
  refine ⟨?_, ?_⟩
  ·rw [hty]
   simp only [tyR, setR]
   rcases hkf with h | h | h <;> simp [h, Ty.bare]
  ·have := (oa.join ob).join (AlkO.root (by rw [Nat.add_assoc]; exact hroot) (fun h => by simp only at h; omega) (fun h => by simp only at h; omega))
   rwa [show bs + a.cnt + b.cnt + 1 = bs + (1 + (a.cnt + b.cnt)) by omega] at this
 | @loop G p nm rg a b c U ha hb hc iha ihb ihc =>
  intro hn sc bs pre ms post hna hns hbs hE
  cases hn with
  | node _ hn =>
  simp only [NA, bodK, NAs, Bool.false_eq_true, if_false, if_true] at hna
  obtain ⟨ks, beh, ⟨a1, c1, hn1, ⟨a2, c2, hn2, ⟨a3, c3, hn3, ⟨_, rfl⟩, rfl⟩, rfl⟩, rfl⟩, rfl⟩ := hna
  rw [List.append_nil] at hns
  have la := NA.len hn1
  have lb := NA.len hn2
  have lc := NA.len hn3
  have hroot := at_root hns
  rw [hbs, List.length_append, List.length_append, la, lb, lc] at hroot
  have hty := H _ _ hroot
  obtain ⟨hba, oa⟩ := iha (hn _ (by simp)) sc bs pre a1 (a2 ++ (a3 ++ ([_] ++ post))) hn1 (by rw [hns]; simp only [List.append_assoc]; rfl) hbs hE
  obtain ⟨hbb, ob⟩ := ihb (hn _ (by simp)) sc (bs + a.cnt) (pre ++ a1) a2 (a3 ++ ([_] ++ post)) hn2 (by rw [hns]; simp only [List.append_assoc]; rfl) (by rw [List.length_append, hbs, la]) hE
  obtain ⟨hbc, oc⟩ := ihc (hn _ (by simp)) _ (bs + a.cnt + b.cnt) (pre ++ a1 ++ a2) a3 ([_] ++ post) hn3 (by rw [hns]; simp only [List.append_assoc]; rfl) (by rw [List.length_append, List.length_append, hbs, la, lb]) (hE.snoc (idx_nn (bs + a.cnt) b) hbb)
  simp only [PT.cnt, cntL, Nat.add_zero, idx_cnt]
  refine ⟨?_, ?_⟩
  ·rw [hty]
   simp only [tyR, setR, fk_loop, partsL, List.getD_cons_succ, List.getD_cons_zero]
   simpa using hbb
  ·have := ((oa.join ob).join oc).join (AlkO.root (by rw [Nat.add_assoc, Nat.add_assoc]; exact hroot) (fun _ => by simp only [partsL, List.getD_cons_succ, List.getD_cons_zero]; rw [hbb, hbc]) (by simp [fk_loop]))
   rwa [show bs + a.cnt + b.cnt + c.cnt + 1 = bs + (1 + (a.cnt + (b.cnt + c.cnt))) by omega] at this
 | new _ _ =>
  intro hn
  cases hn with
  | node hk _ => exact absurd rfl hk
theorem rgV_regsL (E fs : List Nat) (ns : List NR) (i : Nat) (n : NR) (h : ns[i]? = some n) : rgV (regsL E fs ns) i = if n.form = 4 then idxF fs (fst' E n.at_) else -1 := by
 unfold rgV regsL
 rw [List.getElem?_map, h]; rfl
def rgdN (E fs : List Nat) (ns : List NR) : List NR := ns.map (fun n => setR n (if n.form = 4 then idxF fs (fst' E n.at_) else -1))
theorem aboutF_no (T : List Ty) (rg a b : Nat) : ∀ (l : List NR) (k i : Nat), aboutF T rg a b l k = (i : Int) → (knownT T i).has rg = false
 | [], _, i, h => by simp only [aboutF] at h; omega
 | n :: r, k, i, h => by
  simp only [aboutF] at h
  split at h
  ·rename_i hc
   have : k = i := by omega
   rw [← this]; exact hc.2.2
  ·exact aboutF_no T rg a b r (k + 1) i h
mutual
theorem NA.src : ∀ {scope : Sc} {t : PT} {base : Nat} {ns : List NR}, NA scope t base ns → (∀ x ∈ scope, x.2 < (base : Int)) → ∀ (j : Nat) (n : NR), ns[j]? = some n → n.source < ((base + j : Nat) : Int)
 | _, .num p s, base, ns, h, _, j, n, hn => by
  simp only [NA] at h
  subst h
  have hj : j = 0 := by have := (List.getElem?_eq_some_iff.1 hn).1; simp at this; omega
  subst hj
  simp only [List.getElem?_cons_zero, Option.some.injEq] at hn; subst hn
  simp only; omega
 | scope, .name p s, base, ns, h, hs, j, n, hn => by
  simp only [NA] at h
  subst h
  have hj : j = 0 := by have := (List.getElem?_eq_some_iff.1 hn).1; simp at this; omega
  subst hj
  simp only [List.getElem?_cons_zero, Option.some.injEq] at hn; subst hn
  simp only [Nat.add_zero]
  unfold findS
  split
  ·rename_i x hx
   exact hs x (by have := List.mem_of_find?_eq_some hx; simpa using this)
  ·omega
 | scope, .node p k nm rg kids, base, ns, h, hs, j, n, hn => by
  simp only [NA] at h
  obtain ⟨ks, beh, h1, rfl⟩ := h
  by_cases hj : j < ks.length
  ·rw [List.getElem?_append_left hj] at hn
   exact NAs.src h1 hs j n hn
  ·have hje : j = ks.length := by have := (List.getElem?_eq_some_iff.1 hn).1; simp at this; omega
   rw [List.getElem?_append_right (by omega), hje, Nat.sub_self] at hn
   simp only [List.getElem?_cons_zero, Option.some.injEq] at hn; subst hn
   simp only; omega
theorem NAs.src : ∀ {scope : Sc} {nm : List UInt8} {ts : List PT} {bs : List Bool} {base : Nat} {ns : List NR}, NAs scope nm ts bs base ns → (∀ x ∈ scope, x.2 < (base : Int)) → ∀ (j : Nat) (n : NR), ns[j]? = some n → n.source < ((base + j : Nat) : Int)
 | _, _, [], _, _, _, h, _, j, n, hn => by simp only [NAs] at h; rw [h.2] at hn; simp at hn
 | _, _, _ :: _, [], _, _, h, _, _, _, _ => by simp [NAs] at h
 | scope, nm, t :: r, b :: bs, base, ns, h, hs, j, n, hn => by
  simp only [NAs] at h
  obtain ⟨a, c, h1, h2, rfl⟩ := h
  have hl := NA.len h1
  by_cases hj : j < a.length
  ·rw [List.getElem?_append_left hj] at hn
   refine NA.src h1 (fun x hx => ?_) j n hn
   cases b with
   | false => exact hs x (by simpa using hx)
   | true =>
    simp only [if_true, List.mem_append, List.mem_singleton] at hx
    rcases hx with hx | hx
    ·exact hs x hx
    ·rw [hx]; simp only; omega
  ·rw [List.getElem?_append_right (by omega)] at hn
   have := NAs.src h2 (fun x hx => by have := hs x hx; omega) (j - a.length) n hn
   rw [hl] at this hj
   rw [show base + t.cnt + (j - t.cnt) = base + j from by omega] at this
   exact this
end
theorem na_back {t : PT} {ns : List NR} (h : NA [] t 0 ns) (i : Nat) (n : NR) (hn : ns[i]? = some n) : BackN i n := by
 have h1 := h.back i n hn
 have h2 := h.src (fun x hx => by simp at hx) i n hn
 rw [Nat.zero_add] at h1 h2
 exact ⟨h1.1, h1.2.1, h1.2.2, h2⟩
mutual
theorem opn_all : ∀ (t : PT) (base i : Nat), base ≤ i → i < base + t.cnt → (i : Int) ∈ opn t base
 | .num _ _, base, i, h1, h2 => by simp only [PT.cnt] at h2; simp only [opn, List.mem_singleton]; omega
 | .name _ _, base, i, h1, h2 => by simp only [PT.cnt] at h2; simp only [opn, List.mem_singleton]; omega
 | .node _ _ _ _ kids, base, i, h1, h2 => by
  simp only [PT.cnt] at h2
  simp only [opn, List.mem_cons]
  by_cases h : i = base + cntL kids
  ·exact Or.inl (by rw [h])
  ·exact Or.inr (opnL_all kids base i h1 (by omega))
theorem opnL_all : ∀ (ts : List PT) (base i : Nat), base ≤ i → i < base + cntL ts → (i : Int) ∈ opnL ts base
 | [], base, i, h1, h2 => by simp only [cntL] at h2; omega
 | t :: r, base, i, h1, h2 => by
  simp only [cntL] at h2
  simp only [opnL, List.mem_append]
  by_cases h : i < base + t.cnt
  ·exact Or.inl (opn_all t base i h1 h)
  ·exact Or.inr (opnL_all r (base + t.cnt) i (by omega) (by omega))
end
def AllT (P : Nat → Prop) (t : Ty) : Prop := ∀ r ∈ t.rgl, P r
theorem AllT.p {P : Nat → Prop} {r : Nat} {a b : Ty} (h : AllT P (.p r a b)) : P r ∧ AllT P a ∧ AllT P b :=
 ⟨h r (by simp [Ty.rgl]), fun x hx => h x (by simp [Ty.rgl, hx]), fun x hx => h x (by simp [Ty.rgl, hx])⟩
def KeepP (P : Nat → Prop) (E : List Nat) : Prop := ∀ i, P i → P (fst' E i)
theorem join_keep {P : Nat → Prop} {E : List Nat} (hP : ∀ i, P i → i < E.length) (h : KeepP P E) (x y : Nat) (hx : P x) (hy : P y) : KeepP P (joinF E x y) := fun i hi => by
 rw [fst_join E x y (hP x hx) (hP y hy)]
 unfold mrg
 split
 ·have h1 := h x hx
  have h2 := h y hy
  rcases Nat.le_total (fst' E x) (fst' E y) with e | e
  ·rw [Nat.min_eq_left e]; exact h1
  ·rw [Nat.min_eq_right e]; exact h2
 ·exact h i hi
theorem match_keep {P : Nat → Prop} : ∀ (a b : Ty) (E : List Nat), (∀ i, P i → i < E.length) → KeepP P E → AllT P a → AllT P b → KeepP P (matchT E a b)
 | .n, _, _, _, h, _, _ => by simp only [matchT]; exact h
 | .p _ _ _, .n, _, _, h, _, _ => by simp only [matchT]; exact h
 | .p r a b, .p s c d, E, hP, h, h1, h2 => by
  simp only [matchT]
  split
  ·exact h
  ·obtain ⟨r1, r2, r3⟩ := h1.p
   obtain ⟨s1, s2, s3⟩ := h2.p
   refine match_keep b d _ (by rw [matchT_len, joinF_len]; exact hP) (match_keep a c _ (by rw [joinF_len]; exact hP) (join_keep hP h r s r1 s1) r2 s2) r3 s3
theorem allT_known {P : Nat → Prop} {T : List Ty} (h : ∀ t ∈ T, AllT P t) (i : Int) : AllT P (knownT T i) := by
 unfold knownT
 split
 ·cases e : T[i.toNat]? with
  | none => intro r hr; simp [Ty.rgl] at hr
  | some t => exact h t (List.mem_of_getElem? e)
 ·intro r hr; simp [Ty.rgl] at hr
theorem allT_tyR {P : Nat → Prop} {T : List Ty} (h : ∀ t ∈ T, AllT P t) (m : NR) (hm : m.form = 4 → P m.region.toNat) : AllT P (tyR T m) := by
 have h0 := allT_known h m.p0
 have h1 := allT_known h m.p1
 have h2 := allT_known h m.source
 have hn : AllT P .n := fun r hr => by simp [Ty.rgl] at hr
 unfold tyR
 split
 ·exact h2
 split
 ·exact h0
 split
 ·exact h1
 split
 ·exact h1
 split
 ·exact h1
 split
 ·rename_i h4
  intro r hr
  simp only [Ty.rgl, List.mem_cons, List.mem_append] at hr
  rcases hr with hr | hr | hr
  ·rw [hr]; exact hm h4
  ·exact h0 r hr
  ·exact h1 r hr
 split
 ·cases e : knownT T m.p0 with
  | n => exact hn
  | p r a b => rw [e] at h0; exact h0.p.2.1
 split
 ·cases e : knownT T m.p0 with
  | n => exact hn
  | p r a b => rw [e] at h0; exact h0.p.2.2
 ·exact hn
theorem shE_keep {P : Nat → Prop} : ∀ (ns : List NR) (T : List Ty) (E : List Nat), (∀ i, P i → i < E.length) → KeepP P E → (∀ t ∈ T, AllT P t) → (∀ n ∈ ns, n.form = 4 → P n.at_) → KeepP P (shE T E ns)
 | [], _, _, _, h, _, _ => h
 | n :: r, T, E, hP, h, hT, hn => by
  have hb : ∀ t ∈ T ++ [tyR T (atR n)], AllT P t := fun t ht => by
   rcases List.mem_append.1 ht with ht | ht
   ·exact hT t ht
   ·simp only [List.mem_singleton] at ht; subst ht; exact allT_tyR hT _ (fun h4 => by simpa [atR] using hn n (by simp) h4)
  simp only [shE]
  split
  ·exact shE_keep r _ _ (by rw [matchT_len]; exact hP) (match_keep _ _ E hP h (allT_known hb _) (allT_known hb _)) hb (fun m hm => hn m (by simp [hm]))
  ·exact shE_keep r _ _ hP h hb (fun m hm => hn m (by simp [hm]))
theorem fst_range (B i : Nat) : fst' (List.range B) i = i := by
 rw [fst_step]
 cases h : (List.range B)[i]? with
 | none => rfl
 | some x =>
  have := List.getElem?_eq_some_iff.1 h
  obtain ⟨_, h2⟩ := this
  simp only [List.getElem_range] at h2
  simp only
  rw [if_neg (by omega)]
theorem idxF_mem {row : List Nat} {x : Nat} (h : x ∈ row) : ∃ i : Nat, idxF row x = (i : Int) ∧ i < row.length := by
 unfold idxF
 cases e : row.findIdx? (· == x) with
 | some i => exact ⟨i, rfl, (List.findIdx?_eq_some_iff_getElem.1 e).1⟩
 | none =>
  rw [List.findIdx?_eq_none_iff] at e
  have := e x h
  simp at this
theorem opNs_of {e : PT} {ns : List NR} (h : NA [] e 0 ns) (n : NR) (hn : n ∈ ns) : n ∈ opNs ns (opn e 0) := by
 obtain ⟨i, hi⟩ := List.getElem?_of_mem hn
 have hil := (List.getElem?_eq_some_iff.1 hi).1
 have := opn_all e 0 i (Nat.zero_le _) (by have := h.len; omega)
 unfold opNs
 rw [List.mem_map]
 exact ⟨(i : Int), this, by rw [Int.toNat_natCast, hi]; rfl⟩
theorem lay2_of {e : PT} {U : Ty} {ns : List NR} {n0 : NR} (hwt : WT [] e U) (hnn : NoNew e) (hna : NA [] e 0 ns) (hat : ∀ n ∈ ns, n.at_ < n0.beh) (hfs : (firstsL (shE [] (List.range n0.beh) ns) (opNs ns (opn e 0))).length ≤ 1000) :
  Lay2 (regsL (shE [] (List.range n0.beh) ns) (firstsL (shE [] (List.range n0.beh) ns) (opNs ns (opn e 0))) ns)
   (newsL (tyRun [] (rgdN (shE [] (List.range n0.beh) ns) (firstsL (shE [] (List.range n0.beh) ns) (opNs ns (opn e 0))) ns)) ns n0 (firstsL (shE [] (List.range n0.beh) ns) (opNs ns (opn e 0))).length)
   ns (tyRun [] (rgdN (shE [] (List.range n0.beh) ns) (firstsL (shE [] (List.range n0.beh) ns) (opNs ns (opn e 0))) ns)) ∧ SzOk [] (ns.map atR) ∧ SzOk [] (rgdN (shE [] (List.range n0.beh) ns) (firstsL (shE [] (List.range n0.beh) ns) (opNs ns (opn e 0))) ns) := by
 have hbk := fun i n hn => na_back hna i n hn
 have hb1 : ∀ (i : Nat) n, (ns.map atR)[i]? = some n → BackN (([] : List Ty).length + i) n := fun i n hn => by
  rw [List.getElem?_map] at hn
  obtain ⟨m, hm, rfl⟩ := Option.map_eq_some_iff.1 hn
  simpa [BackN, atR] using hbk i m hm
 have hfix1 : ∀ i n, ns[i]? = some n → knownT (tyRun [] (ns.map atR)) (i : Nat) = tyR (tyRun [] (ns.map atR)) (setR n (((ns[i]?).map (fun m => (m.at_ : Int))).getD 0)) := fun i n hn => by
  have := run_fix (ns.map atR) [] hb1 i (atR n) (by rw [List.getElem?_map, hn]; rfl)
  rw [List.length_nil, Nat.zero_add] at this
  rw [this, hn]; rfl
 obtain ⟨_, halk⟩ := wt_alike (ρ := fun i => ((ns[i]?).map (fun m => (m.at_ : Int))).getD 0) hfix1 hwt hnn [] 0 [] ns [] hna (by simp) rfl (fun s U h => by simp [look] at h)
 rw [Nat.zero_add, ← hna.len] at halk
 have hal1 : AlikeT [] (ns.map atR) := alike_rec _ _ hb1 (fun i n hn hf => by
  rw [List.getElem?_map] at hn
  obtain ⟨m, hm, rfl⟩ := Option.map_eq_some_iff.1 hn
  exact (halk i m (Nat.zero_le _) (List.getElem?_eq_some_iff.1 hm).1 hm).1 hf)
 have hsz1 : SzOk [] (ns.map atR) := sz_rec _ _ hb1 (fun i n hn hf => by
  rw [List.getElem?_map] at hn
  obtain ⟨m, hm, rfl⟩ := Option.map_eq_some_iff.1 hn
  exact (halk i m (Nat.zero_le _) (List.getElem?_eq_some_iff.1 hm).1 hm).2 hf)
 have hone := shE_one ns [] (List.range n0.beh) (fun t h => by simp at h) (by rw [List.length_range]; exact hat) hal1
 have hkeep : KeepP (fun x => ∃ n ∈ ns, n.form = 4 ∧ n.at_ = x) (shE [] (List.range n0.beh) ns) :=
  shE_keep ns [] (List.range n0.beh) (fun i ⟨n, hn, _, he⟩ => by rw [List.length_range, ← he]; exact hat n hn) (fun i hi => by rw [fst_range]; exact hi) (fun t h => by simp at h) (fun n hn h4 => ⟨n, hn, h4, rfl⟩)
 generalize shE [] (List.range n0.beh) ns = E at *
 have hmem : ∀ n ∈ ns, n.form = 4 → fst' E n.at_ ∈ firstsL E (opNs ns (opn e 0)) := fun n hn h4 => by
  obtain ⟨m, hm, m4, mat⟩ := hkeep n.at_ ⟨n, hn, h4, rfl⟩
  unfold firstsL
  rw [List.mem_map]
  refine ⟨m, List.mem_filter.2 ⟨opNs_of hna m hm, ?_⟩, mat⟩
  rw [mat, fst_idem]
  simp [m4]
 generalize firstsL E (opNs ns (opn e 0)) = fs at *
 obtain ⟨f, hf⟩ : ∃ f : Nat → Nat, f = fun x => (idxF fs (fst' E x)).toNat := ⟨_, rfl⟩
 have hT2 : ∀ (l : List NR) (T : List Ty), tyRun (T.map (mapT f)) (rgdN E fs l) = (tyRun T (l.map atR)).map (mapT f) := fun l => by
  induction l with
  | nil => intro T; simp [rgdN, tyRun]
  | cons n r ih =>
   intro T
   have e1 : tyR (T.map (mapT f)) (setR n (if n.form = 4 then idxF fs (fst' E n.at_) else -1)) = mapT f (tyR T (atR n)) := tyR_map f T (atR n) _ rfl (fun h4 => by
    have h4' : n.form = 4 := h4
    simp only [setR, atR, if_pos h4', Int.toNat_natCast]; rw [hf])
   have ih2 := ih (T ++ [tyR T (atR n)])
   rw [List.map_append, List.map_singleton, ← e1] at ih2
   simp only [rgdN, List.map_cons, tyRun] at ih2 ⊢
   exact ih2
 have hT20 := hT2 ns []
 rw [List.map_nil] at hT20
 have hb2 : ∀ (i : Nat) n, (rgdN E fs ns)[i]? = some n → BackN (([] : List Ty).length + i) n := fun i n hn => by
  unfold rgdN at hn
  rw [List.getElem?_map] at hn
  obtain ⟨m, hm, rfl⟩ := Option.map_eq_some_iff.1 hn
  simpa [BackN, setR] using hbk i m hm
 have hpr : LyT (regsL E fs ns) ns := fun i n hn => by
  rw [rgV_regsL E fs ns i n hn]
  refine ⟨fun h4 => ?_, fun h4 => by rw [if_neg h4]⟩
  obtain ⟨j, hj, hjl⟩ := idxF_mem (hmem n (List.mem_of_getElem? hn) h4)
  rw [if_pos h4, hj]; omega
 have hfix2 : ∀ i n, ns[i]? = some n → knownT (tyRun [] (rgdN E fs ns)) (i : Nat) = tyR (tyRun [] (rgdN E fs ns)) (setR n (rgV (regsL E fs ns) i)) := fun i n hn => by
  have := run_fix (rgdN E fs ns) [] hb2 i (setR n (if n.form = 4 then idxF fs (fst' E n.at_) else -1)) (by unfold rgdN; rw [List.getElem?_map, hn]; rfl)
  rw [List.length_nil, Nat.zero_add] at this
  rw [this, rgV_regsL E fs ns i n hn]
 refine ⟨⟨hfix2, hpr, fun i n hn hfm => ?_, fun r i hr => ?_⟩, hsz1, ?_⟩
 ·have h1 := one_rec (fst' E) (ns.map atR) [] hb1 hone i (atR n) (by rw [List.getElem?_map, hn]; rfl) hfm
  rw [hT20, knownT_map, knownT_map]
  have hc : Coarse (fst' E) f := fun a b hab => by rw [hf]; simp only [hab]
  exact hc.map _ _ h1
 ·unfold newsL at hr
  rw [List.getElem?_map] at hr
  obtain ⟨k, hk, hkr⟩ := Option.map_eq_some_iff.1 hr
  have : k = r := by
   have := (List.getElem?_eq_some_iff.1 hk).2
   simpa using this.symm
  subst this
  exact aboutF_no _ _ _ _ _ _ _ hkr
 ·obtain ⟨_, halk2⟩ := wt_alike (ρ := fun i => rgV (regsL E fs ns) i) hfix2 hwt hnn [] 0 [] ns [] hna (by simp) rfl (fun s U h => by simp [look] at h)
  rw [Nat.zero_add, ← hna.len] at halk2
  exact sz_rec _ _ hb2 (fun i n hn hf4 => by
   unfold rgdN at hn
   rw [List.getElem?_map] at hn
   obtain ⟨m, hm, rfl⟩ := Option.map_eq_some_iff.1 hn
   exact (halk2 i m (Nat.zero_le _) (List.getElem?_eq_some_iff.1 hm).1 hm).2 hf4)
end Go.Proofs.YtpicaknklgccoaaGreatDoor
