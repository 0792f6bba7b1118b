import Derived.Test.YtpicaknklgccoaaDoorX1
import Derived.ArgAppend
import Derived.BigRegion
import Derived.BigQuiet
import Derived.Deep.QuietTactic
import Derived.Lib.ItoaNum
namespace Go.Proofs.YtpicaknklgccoaaDoor
open Go.RowKit
def formInt (o : Option Nat) : Int := match o with
 | some p => p
 | none => -1
theorem cl_beq (c d : Cl) : ((bs c.bytes).toList == d.bytes) = decide (c = d) := by
 rw [bs_beq]
 rcases c with _ | _ | _ | _ | _ | _ | k <;> rcases d with _ | _ | _ | _ | _ | _ | k' <;> first | decide | (cases k <;> decide) | (cases k' <;> decide) | (cases k <;> cases k' <;> decide)
theorem tk_cell (ts : List Tk) (k : Nat) (t : Tk) (h : ts[k]? = some t) (j : Nat) (hj : j < 3) : (ts.flatMap tkCells)[k * 3 + j]? = (tkCells t)[j]? := by
 induction ts generalizing k with
 | nil => simp at h
 | cons a r ih =>
  cases k with
  | zero =>
   simp at h; subst h
   rw [List.flatMap_cons, List.getElem?_append_left (by simp [tkCells]; omega)]; simp
  | succ k =>
   simp at h
   rw [List.flatMap_cons, List.getElem?_append_right (by simp [tkCells]; omega)]
   have : (k + 1) * 3 + j - (tkCells a).length = k * 3 + j := by simp [tkCells]; omega
   rw [this]; exact ih k h
theorem alloc_cell_at (w : World) (l : List Value) (e : TypeId) (j : Nat) : (w.alloc (.cells l.toArray e)).cell? (Addr.add ⟨w.heap.size, 0, none⟩ j) = l[j]? := by
 rcases j with _ | j <;> simp [Addr.add]
theorem wants_no (c : Cl) (placed : Bool) (w : World) (h : wantsC c placed = []) :
  Calls Tryd.prog 32 #[.string (bs c.bytes), .bool placed] w fun e w' => e = .returned (.slice none 0 0) ∧ w' = w := by
 refine (wants_any c placed w).mono ?_
 rintro e w' (⟨_, h1, h2⟩ | ⟨h0, _⟩)
 ·exact ⟨h1, h2⟩
 ·exact absurd h h0
theorem wants_yes (c : Cl) (placed : Bool) (w : World) (h : wantsC c placed ≠ []) :
  Calls Tryd.prog 32 #[.string (bs c.bytes), .bool placed] w fun e w' => e = .returned (.slice (some ⟨w.heap.size, 0, none⟩) (wantsC c placed).length (wantsC c placed).length) ∧ w' = w.alloc (.cells (((wantsC c placed).map wtVal).reverse).toArray 9) := by
 refine (wants_any c placed w).mono ?_
 rintro e w' (⟨h0, _⟩ | ⟨_, h1, h2⟩)
 ·exact absurd h0 h
 ·exact ⟨h1, h2⟩
set_option maxRecDepth 100000 in
set_option maxHeartbeats 4000000 in
theorem Form_any (s : ByteArray) (placed : Bool) (w : World) (hs : s.size ≤ 9000) :
  Calls Tryd.prog 17 #[.string s, .bool placed] w fun e w' => e = .returned (.int .i64 (formInt (formOf placed s.data.toList))) ∧ Below w.heap.size w w' := by
 obtain ⟨i0, hi, hz0, hz1, hz2⟩ := info_parts Tryd.infoStr
 have HI : Hid _ := hi
 have HZ0 : Hid _ := hz0
 have HZ1 : Hid _ := hz1
 have HZ2 : Hid _ := hz2
 clear hi hz0 hz1 hz2
 have htk := Tokens_any s
 unfold formOf
 rw [size_list]
 obtain ⟨ts, hts⟩ : ∃ ts, ts = tokens s.data.toList := ⟨_, rfl⟩
 have htl : ts.length ≤ s.size := by rw [hts]; have := toks_len s.data.toList.length 0 s.data.toList; rw [size_list] at this; unfold tokens; rw [size_list]; exact this
 rw [← hts] at htk ⊢
 clear hts
 go_enter Tryd.func17, Tryd.ntmps17
 go_wp2_with (first
  | (go_at_call 31; refine (htk _ hs).mono ?_; rintro e w1 ⟨tv, rfl, htown, htb⟩))
 have HTO : Hid (w1.ownsRow w.heap.size 66 3 tv ts.length (ts.flatMap tkCells)) := htown
 have HTB : Hid _ := htb
 have hw1 := htb.size
 clear htown htb htk
 obtain ⟨ta, tn, tc, htv, htn⟩ : ∃ ta tn tc, tv = .slice ta tn tc ∧ tn = ts.length := by
  rcases HTO.out.2 with ⟨h, h'⟩ | ⟨g, cap, cur, h, _⟩
  ·exact ⟨_, _, _, h, h'.symm⟩
  ·exact ⟨_, _, _, h, rfl⟩
 subst htn
 rw [htv]
 have HTV : Hid _ := htv
 clear htv
 go_loopw [6, 7] (fun v i wr => ∃ (k : Nat) (pile : List Wt) (g cap : Nat), k ≤ ts.length ∧ i = .int .i64 k ∧ v = .slice (some ⟨g, 0, none⟩) pile.length cap ∧
   wr.ownsRow w1.heap.size 9 1 (.slice (some ⟨g, 0, none⟩) pile.length cap) pile.length ((pile.map wtVal).reverse) ∧ Below w1.heap.size w1 wr ∧ pile.length ≤ 5 * k + 1 ∧
   formRun placed s.size ts [.e] = formRun placed s.size (ts.drop k) pile) (fun _ i _ => ts.length - (intOf i).toNat)
 case atStart =>
  refine ⟨0, [.e], w1.heap.size, 1, by omega, rfl, rfl, ?_, ?_, by simp, by simp⟩
  ·refine ⟨rfl, Or.inr ⟨w1.heap.size, 1, #[wtVal .e], rfl, Nat.le_refl _, ?_, by simp, by decide, rfl, rfl⟩⟩
   show (w1.heap.push _)[w1.heap.size]? = _; simp [wtVal, Wt.bytes, bs]
  ·exact (Below.refl _ _).alloc (Nat.le_refl _) _
 case round =>
  obtain ⟨k, pile, g, cap, hk, rfl, rfl, hown, hbel, hpl, hall⟩ := hrel
  have HA : Hid _ := hall
  have HO : Hid (wr.ownsRow w1.heap.size 9 1 (.slice (some ⟨g, 0, none⟩) pile.length cap) pile.length ((pile.map wtVal).reverse)) := hown
  have HB : Hid _ := hbel
  have hsz := hbel.size
  clear hall hown hbel
  by_cases hlt : k < ts.length
  ·obtain ⟨t, ht⟩ : ∃ t, ts[k]? = some t := ⟨ts[k], List.getElem?_eq_getElem hlt⟩
   obtain ⟨gt, hgt⟩ : ∃ gt, ta = some ⟨gt, 0, none⟩ := by
    have h := HTO.out.2
    rw [HTV.out] at h
    rcases h with ⟨h, h'⟩ | ⟨g, cap, cur, h, _⟩
    ·omega
    ·simp only [Value.slice.injEq] at h; exact ⟨_, h.1⟩
   have hcw : ∀ j, j < 3 → w1.cell? ⟨gt, k * 3 + j, none⟩ = (tkCells t)[j]? := by
    intro j hj
    have h : w1.ownsRow w.heap.size 66 3 (.slice (some ⟨gt, 0, none⟩) ts.length tc) ts.length (ts.flatMap tkCells) := by rw [← hgt, ← HTV.out]; exact HTO.out
    rw [h.cellAt (k * 3 + j) (by omega)]
    exact tk_cell ts k t ht j hj
   have hgtw : gt < w1.heap.size := (HTO.out.lt gt (by rw [HTV.out, hgt]; rfl)).2
   subst hgt
   have hcl : ∀ j, j < 3 → wr.cell? ⟨gt, k * 3 + j, none⟩ = (tkCells t)[j]? := fun j hj => (HB.out.cell (p := ⟨gt, k * 3 + j, none⟩) hgtw).trans (hcw j hj)
   have hc1 : wr.cell? ⟨gt, k * 3 + 1, none⟩ = some (.int .i64 t.at_) := hcl 1 (by omega)
   have hc2 : wr.cell? ⟨gt, k * 3 + 2, none⟩ = some (.string (bs t.c.bytes)) := hcl 2 (by omega)
   have hd : ts.drop k = t :: ts.drop (k + 1) := by rw [List.drop_eq_getElem_cons hlt]; rw [List.getElem?_eq_getElem hlt] at ht; simp only [Option.some.injEq] at ht; rw [ht]
   have HD : Hid _ := hd
   clear hcl hcw ht hd
   cases pile with
   | nil => 
    simp only [List.length_nil] at *
    go_wp2
    go_ret
    exact ⟨ret_int (by rw [HA.out, HD.out]; simp [formRun, formInt]), (HTB.out.trans (HB.out.mono hw1))⟩
   | cons x p => 
    have hpc : wr.cell? ⟨g, p.length, none⟩ = some (wtVal x) := by
     rw [HO.out.cellAt p.length (by simp)]; simp
    have HO2 : Hid (wr.ownsRow w1.heap.size 9 1 (.slice (some ⟨g, 0, none⟩) p.length cap) p.length ((p.map wtVal).reverse)) := by
     refine ownsRow_pop (last := [wtVal x]) (by simp) ?_
     have := HO.out; simpa using this
    have hpcap : p.length + 1 ≤ cap := by
     rcases HO.out.2 with ⟨h, h'⟩ | ⟨g', cap', cur, h, _, _, h3, _⟩
     ·simp at h'
     ·simp only [Value.slice.injEq] at h; simp at h3; omega
    simp only [List.length_cons] at *
    cases x with
    | close =>
     simp only [wtVal, Wt.bytes] at hpc
     have q1 : ((bs [41]).toList == [101]) = false := by rw [bs_beq]; decide
     have q2 : ((bs [41]).toList == [119, 111, 114, 100]) = false := by rw [bs_beq]; decide
     have hq : ((bs t.c.bytes).toList == (bs [41]).toList) = decide (t.c = Cl.cls) := by
      have := cl_beq t.c Cl.cls
      rw [Lib.toList_data (bs [41])]; exact this
     by_cases hc : t.c = Cl.cls
     ·rw [decide_eq_true hc] at hq
      have HC : Hid _ := hc
      clear hc
      go_wp2
      go_roundw
      case rel => exact ⟨k + 1, p, g, cap, by omega, by go_num, rfl, HO2.out, HB.out, by omega, by rw [HA.out, HD.out]; simp only [formRun]; rw [if_pos HC.out]⟩
      case measure => simp [intOf]; omega
     ·rw [decide_eq_false hc] at hq
      have HC : Hid _ := hc
      clear hc
      go_wp2
      go_ret
      exact ⟨ret_int (by rw [HA.out, HD.out]; simp only [formRun]; rw [if_neg HC.out]; rfl), (HTB.out.trans (HB.out.mono hw1))⟩
    | name =>
     simp only [wtVal, Wt.bytes] at hpc
     have q1 : ((bs [78, 65, 77, 69]).toList == [101]) = false := by rw [bs_beq]; decide
     have q2 : ((bs [78, 65, 77, 69]).toList == [119, 111, 114, 100]) = false := by rw [bs_beq]; decide
     have hq : ((bs t.c.bytes).toList == (bs [78, 65, 77, 69]).toList) = decide (t.c = Cl.nam) := by
      have := cl_beq t.c Cl.nam
      rw [Lib.toList_data (bs [78, 65, 77, 69])]; exact this
     by_cases hc : t.c = Cl.nam
     ·rw [decide_eq_true hc] at hq
      have HC : Hid _ := hc
      clear hc
      go_wp2
      go_roundw
      case rel => exact ⟨k + 1, p, g, cap, by omega, by go_num, rfl, HO2.out, HB.out, by omega, by rw [HA.out, HD.out]; simp only [formRun]; rw [if_pos HC.out]⟩
      case measure => simp [intOf]; omega
     ·rw [decide_eq_false hc] at hq
      have HC : Hid _ := hc
      clear hc
      go_wp2
      go_ret
      exact ⟨ret_int (by rw [HA.out, HD.out]; simp only [formRun]; rw [if_neg HC.out]; rfl), (HTB.out.trans (HB.out.mono hw1))⟩
    | region =>
     simp only [wtVal, Wt.bytes] at hpc
     have q1 : ((bs [82, 69, 71, 73, 79, 78]).toList == [101]) = false := by rw [bs_beq]; decide
     have q2 : ((bs [82, 69, 71, 73, 79, 78]).toList == [119, 111, 114, 100]) = false := by rw [bs_beq]; decide
     have hq : ((bs t.c.bytes).toList == (bs [82, 69, 71, 73, 79, 78]).toList) = decide (t.c = Cl.reg) := by
      have := cl_beq t.c Cl.reg
      rw [Lib.toList_data (bs [82, 69, 71, 73, 79, 78])]; exact this
     by_cases hc : t.c = Cl.reg
     ·rw [decide_eq_true hc] at hq
      have HC : Hid _ := hc
      clear hc
      go_wp2
      go_roundw
      case rel => exact ⟨k + 1, p, g, cap, by omega, by go_num, rfl, HO2.out, HB.out, by omega, by rw [HA.out, HD.out]; simp only [formRun]; rw [if_pos HC.out]⟩
      case measure => simp [intOf]; omega
     ·rw [decide_eq_false hc] at hq
      have HC : Hid _ := hc
      clear hc
      go_wp2
      go_ret
      exact ⟨ret_int (by rw [HA.out, HD.out]; simp only [formRun]; rw [if_neg HC.out]; rfl), (HTB.out.trans (HB.out.mono hw1))⟩
    | e =>
     simp only [wtVal, Wt.bytes] at hpc
     have q1 : ((bs [101]).toList == [101]) = true := by rw [bs_beq]; decide
     have o1 : ((bs t.c.bytes).toList == [40]) = decide (t.c = .opn) := cl_beq t.c .opn
     have o2 : ((bs t.c.bytes).toList == [78, 85, 77, 66, 69, 82]) = decide (t.c = .num) := cl_beq t.c .num
     have o3 : ((bs t.c.bytes).toList == [78, 65, 77, 69]) = decide (t.c = .nam) := cl_beq t.c .nam
     by_cases h1 : t.c = .opn
     ·rw [decide_eq_true h1] at o1
      have HC : Hid _ := h1
      clear h1 o2 o3
      go_wp2_with (at_builtin; refine wpList_append_own _ rfl (.tmp 57) (.tmp 58) 53 rfl w1.heap.size 9 i0 _ 1 16 Tryd.undStrs HI.out HZ0.out HZ1.out HZ2.out rfl (by decide) _ p.length ((p.map wtVal).reverse) rfl (HO2.out.alloc _) ⟨wr.heap.size, 0, none⟩ 1 1 [wtVal .word] rfl rfl ?d1 ?d2 ?d3 ?d4 ?d5 ?_)
      case d1 =>
       intro j u hj
       match j, hj with
       | 0, hj => simp at hj; subst hj; simp [Addr.add, wtVal, Wt.bytes, bs]
       | j + 1, hj => simp at hj
      case d2 => intro u hu; simp at hu; subst hu; rfl
      case d3 => unfold maxLen; omega
      case d4 => omega
      case d5 => simp; omega
      intro v' w2 hown' hgrow hnil
      have HB2 : Hid (Below w1.heap.size w1 w2) := (HB.out.alloc hsz _).grown hgrow (by simp; omega) (fun b hb => (World.ownsRow.lt HO2.out b hb).1)
      obtain ⟨g2, cap2, hv2⟩ : ∃ g2 cap2, v' = .slice (some ⟨g2, 0, none⟩) (p.length + 1) cap2 := by
       rcases hown'.2 with ⟨h, h'⟩ | ⟨g', cap', cur, h, _⟩
       ·omega
       ·exact ⟨_, _, h⟩
      rw [hv2] at hown' ⊢
      have HO3 : Hid (w2.ownsRow w1.heap.size 9 1 (.slice (some ⟨g2, 0, none⟩) (p.length + 1) cap2) (p.length + 1) ((p.map wtVal).reverse ++ [wtVal .word])) := hown'
      clear hown' hgrow hnil hv2
      go_wp2
      go_roundw
      case rel => exact ⟨k + 1, .word :: p, g2, cap2, by omega, by go_num, rfl, by have := HO3.out; simpa using this, HB2.out, by simp; omega, by rw [HA.out, HD.out]; simp only [formRun]; rw [HC.out]⟩
      case measure => simp [intOf]; omega
     ·rw [decide_eq_false h1] at o1
      by_cases h2 : t.c = .num
      ·rw [decide_eq_true h2] at o2
       have HC : Hid _ := h2
       clear h1 h2 o3
       go_wp2
       go_roundw
       case rel => exact ⟨k + 1, p, g, cap, by omega, by go_num, rfl, HO2.out, HB.out, by omega, by rw [HA.out, HD.out]; simp only [formRun]; rw [HC.out]⟩
       case measure => simp [intOf]; omega
      ·rw [decide_eq_false h2] at o2
       by_cases h3 : t.c = .nam
       ·rw [decide_eq_true h3] at o3
        have HC : Hid _ := h3
        clear h1 h2 h3
        go_wp2
        go_roundw
        case rel => exact ⟨k + 1, p, g, cap, by omega, by go_num, rfl, HO2.out, HB.out, by omega, by rw [HA.out, HD.out]; simp only [formRun]; rw [HC.out]⟩
        case measure => simp [intOf]; omega
       ·rw [decide_eq_false h3] at o3
        have HC : Hid (t.c ≠ .opn ∧ t.c ≠ .num ∧ t.c ≠ .nam) := ⟨h1, h2, h3⟩
        clear h1 h2 h3
        go_wp2
        go_ret
        refine ⟨ret_int ?_, (HTB.out.trans (HB.out.mono hw1))⟩
        rw [HA.out, HD.out]
        have := HC.out
        simp only [formRun]
        split <;> simp_all [formInt]
    | word =>
     simp only [wtVal, Wt.bytes] at hpc
     have q1 : ((bs [119, 111, 114, 100]).toList == [101]) = false := by rw [bs_beq]; decide
     have q2 : ((bs [119, 111, 114, 100]).toList == [119, 111, 114, 100]) = true := by rw [bs_beq]; decide
     by_cases h1 : wantsC t.c placed = []
     ·have hwn := fun w => wants_no t.c placed w h1
      have HC : Hid _ := h1
      clear h1
      go_wp2_with (go_at_call 32; refine (hwn _).mono ?_; rintro e w' ⟨rfl, rfl⟩)
      go_ret
      exact ⟨ret_int (by rw [HA.out, HD.out]; simp only [formRun]; rw [if_pos HC.out]; rfl), (HTB.out.trans (HB.out.mono hw1))⟩
     ·have hwn := fun w => wants_yes t.c placed w h1
      have hl := wantsC_len t.c placed
      have HC : Hid _ := h1
      obtain ⟨more, hm⟩ : ∃ more, more = wantsC t.c placed := ⟨_, rfl⟩
      have hmp : 0 < more.length := by rw [hm]; exact List.length_pos_iff.2 h1
      rw [← hm] at hwn hl
      have HM : Hid _ := hm
      have hb0 : ((more.length : Int) == 0) = false := by rw [beq_eq_false_iff_ne]; omega
      clear h1 hm
      go_wp2_with (first
       | (go_at_call 32; refine (hwn _).mono ?_; rintro e w' ⟨rfl, rfl⟩)
       | (at_builtin; refine wpList_append_own _ rfl (.tmp 84) (.tmp 85) 53 rfl w1.heap.size 9 i0 _ 1 16 Tryd.undStrs HI.out HZ0.out HZ1.out HZ2.out rfl (by decide) _ p.length ((p.map wtVal).reverse) rfl (HO2.out.alloc _) ⟨wr.heap.size, 0, none⟩ more.length more.length ((more.map wtVal).reverse) rfl (by simp) ?d1 ?d2 ?d3 ?d4 ?d5 ?_))
      case d1 =>
       intro j u hj
       rw [← hj]
       exact alloc_cell_at _ _ _ _
      case d2 => intro u hu; simp at hu; obtain ⟨x, _, rfl⟩ := hu; rfl
      case d3 => unfold maxLen; omega
      case d4 => omega
      case d5 => simp; omega
      intro v' w2 hown' hgrow hnil
      have HB2 : Hid (Below w1.heap.size w1 w2) := (HB.out.alloc hsz _).grown hgrow (by simp; omega) (fun b hb => (World.ownsRow.lt HO2.out b hb).1)
      obtain ⟨g2, cap2, hv2⟩ : ∃ g2 cap2, v' = .slice (some ⟨g2, 0, none⟩) (p.length + more.length) cap2 := by
       rcases hown'.2 with ⟨h, h'⟩ | ⟨g', cap', cur, h, _⟩
       ·omega
       ·exact ⟨_, _, h⟩
      rw [hv2] at hown' ⊢
      have HO3 : Hid (w2.ownsRow w1.heap.size 9 1 (.slice (some ⟨g2, 0, none⟩) (p.length + more.length) cap2) (p.length + more.length) ((p.map wtVal).reverse ++ (more.map wtVal).reverse)) := hown'
      clear hown' hgrow hnil hv2
      go_wp2
      go_roundw
      case rel =>
       refine ⟨k + 1, more ++ p, g2, cap2, by omega, by go_num, by simp; omega, ?_, HB2.out, by simp; omega, by rw [HA.out, HD.out]; simp only [formRun]; rw [if_neg HC.out, ← HM.out]⟩
       have := HO3.out
       have e1 : (more ++ p).length = p.length + more.length := by simp; omega
       rw [e1]
       simpa using this
      case measure => simp [intOf]; omega
  ·have hkk : k = ts.length := by omega
   have hd : ts.drop k = [] := by rw [hkk]; simp
   have HD : Hid _ := hd
   clear hd
   cases pile with
   | nil =>
    simp only [List.length_nil] at *
    go_wp2
    go_ret
    exact ⟨ret_int (by rw [HA.out, HD.out]; simp [formRun, formInt]), (HTB.out.trans (HB.out.mono hw1))⟩
   | cons x p =>
    simp only [List.length_cons] at *
    go_wp2
    go_ret
    exact ⟨ret_int (by rw [HA.out, HD.out]; simp [formRun, formInt]), (HTB.out.trans (HB.out.mono hw1))⟩
end Go.Proofs.YtpicaknklgccoaaDoor
namespace Go.Proofs.YtpicaknklgccoaaDoor
inductive PT where
 | num (p : Nat) (s : List UInt8)
 | name (p : Nat) (s : List UInt8)
 | node (p : Nat) (k : Kw) (nm rg : List UInt8) (kids : List PT)
mutual
def PT.cnt : PT → Nat
 | .num _ _ => 1
 | .name _ _ => 1
 | .node _ _ _ _ kids => 1 + cntL kids
def cntL : List PT → Nat
 | [] => 0
 | t :: r => t.cnt + cntL r
end
mutual
def PT.prs : PT → Nat
 | .num _ _ => 0
 | .name _ _ => 0
 | .node _ k _ _ kids => (if k = .pair then 1 else 0) + prsL kids
def prsL : List PT → Nat
 | [] => 0
 | t :: r => t.prs + prsL r
end
mutual
inductive PE (placed : Bool) : List Tk → PT → List Tk → Prop
 | num {t : Tk} {r : List Tk} : t.c = .num → PE placed (t :: r) (.num t.at_ t.s) r
 | name {t : Tk} {r : List Tk} : t.c = .nam → PE placed (t :: r) (.name t.at_ t.s) r
 | node {t u : Tk} {k : Kw} {r r' : List Tk} {nm rg : List UInt8} {kids : List PT} : t.c = .opn → u.c = .kw k → wantsK k placed ≠ [] →
   PW placed (wantsK k placed) r nm rg kids r' → PE placed (t :: u :: r) (.node t.at_ k nm rg kids) r'
inductive PW (placed : Bool) : List Wt → List Tk → List UInt8 → List UInt8 → List PT → List Tk → Prop
 | nil {r : List Tk} : PW placed [] r [] [] [] r
 | close {t : Tk} {ws : List Wt} {r r' : List Tk} {nm rg : List UInt8} {kids : List PT} : t.c = .cls → PW placed ws r nm rg kids r' → PW placed (.close :: ws) (t :: r) nm rg kids r'
 | name {t : Tk} {ws : List Wt} {r r' : List Tk} {nm rg : List UInt8} {kids : List PT} : t.c = .nam → PW placed ws r nm rg kids r' → PW placed (.name :: ws) (t :: r) t.s rg kids r'
 | region {t : Tk} {ws : List Wt} {r r' : List Tk} {nm rg : List UInt8} {kids : List PT} : t.c = .reg → PW placed ws r nm rg kids r' → PW placed (.region :: ws) (t :: r) nm t.s kids r'
 | e {e : PT} {ws : List Wt} {l r r' : List Tk} {nm rg : List UInt8} {kids : List PT} : PE placed l e r → PW placed ws r nm rg kids r' → PW placed (.e :: ws) l nm rg (e :: kids) r'
end
mutual
theorem PE.sound {placed : Bool} {len : Nat} : ∀ {l : List Tk} {e : PT} {r : List Tk}, PE placed l e r → ∀ p, formRun placed len l (.e :: p) = formRun placed len r p
 | _, _, _, .num h, p => by simp [formRun, h]
 | _, _, _, .name h, p => by simp [formRun, h]
 | _, _, _, .node (k := k) h1 h2 h3 h4, p => by
  have := PW.sound (len := len) h4 p
  simp only [formRun, h1, h2, wantsC]
  rw [if_neg h3]; exact this
theorem PW.sound {placed : Bool} {len : Nat} : ∀ {ws : List Wt} {l : List Tk} {nm rg : List UInt8} {kids : List PT} {r : List Tk}, PW placed ws l nm rg kids r → ∀ p, formRun placed len l (ws ++ p) = formRun placed len r p
 | _, _, _, _, _, _, .nil, p => rfl
 | _, _, _, _, _, _, .close h h1, p => by have := PW.sound (len := len) h1 p; simp only [List.cons_append, formRun, if_pos h]; exact this
 | _, _, _, _, _, _, .name h h1, p => by have := PW.sound (len := len) h1 p; simp only [List.cons_append, formRun, if_pos h]; exact this
 | _, _, _, _, _, _, .region h h1, p => by have := PW.sound (len := len) h1 p; simp only [List.cons_append, formRun, if_pos h]; exact this
 | _, _, _, _, _, _, .e (ws := ws) h h1, p => by have := PE.sound (len := len) h (ws ++ p); rw [List.cons_append, this]; exact PW.sound h1 p
end
mutual
theorem PE.len {placed : Bool} : ∀ {l : List Tk} {e : PT} {r : List Tk}, PE placed l e r → r.length < l.length
 | _, _, _, .num _ => by simp
 | _, _, _, .name _ => by simp
 | _, _, _, .node _ _ _ h4 => by have := PW.len h4; simp; omega
theorem PW.len {placed : Bool} : ∀ {ws : List Wt} {l : List Tk} {nm rg : List UInt8} {kids : List PT} {r : List Tk}, PW placed ws l nm rg kids r → r.length ≤ l.length
 | _, _, _, _, _, _, .nil => Nat.le_refl _
 | _, _, _, _, _, _, .close _ h1 => by have := PW.len h1; simp; omega
 | _, _, _, _, _, _, .name _ h1 => by have := PW.len h1; simp; omega
 | _, _, _, _, _, _, .region _ h1 => by have := PW.len h1; simp; omega
 | _, _, _, _, _, _, .e h h1 => by have := PE.len h; have := PW.len h1; omega
end
theorem wantsK_word (k : Kw) (placed : Bool) : Wt.word ∉ wantsK k placed := by cases k <;> cases placed <;> decide
theorem parse_total (placed : Bool) (len : Nat) : ∀ n : Nat,
  (∀ l : List Tk, l.length ≤ n → (∃ e r, PE placed l e r) ∨ (∃ q, ∀ p, formRun placed len l (.e :: p) = some q)) ∧
  (∀ ws : List Wt, Wt.word ∉ ws → ∀ l : List Tk, l.length ≤ n → (∃ nm rg kids r, PW placed ws l nm rg kids r) ∨ (∃ q, ∀ p, formRun placed len l (ws ++ p) = some q)) := by
 intro n
 induction n with
 | zero =>
  have hE : ∀ l : List Tk, l.length ≤ 0 → (∃ e r, PE placed l e r) ∨ (∃ q, ∀ p, formRun placed len l (.e :: p) = some q) := by
   intro l hl
   have : l = [] := List.length_eq_zero_iff.1 (by omega)
   subst this
   exact Or.inr ⟨len, fun p => rfl⟩
  refine ⟨hE, ?_⟩
  intro ws hw l hl
  have : l = [] := List.length_eq_zero_iff.1 (by omega)
  subst this
  cases ws with
  | nil => exact Or.inl ⟨_, _, _, _, .nil⟩
  | cons x ws => exact Or.inr ⟨len, fun p => rfl⟩
 | succ n ih =>
  have hE : ∀ l : List Tk, l.length ≤ n + 1 → (∃ e r, PE placed l e r) ∨ (∃ q, ∀ p, formRun placed len l (.e :: p) = some q) := by
   intro l hl
   cases l with
   | nil => exact Or.inr ⟨len, fun p => rfl⟩
   | cons t r =>
    cases hc : t.c with
    | num => exact Or.inl ⟨_, _, .num hc⟩
    | nam => exact Or.inl ⟨_, _, .name hc⟩
    | opn =>
     cases r with
     | nil => exact Or.inr ⟨len, fun p => by simp [formRun, hc]⟩
     | cons u r =>
      by_cases hw : wantsC u.c placed = []
      ·exact Or.inr ⟨u.at_, fun p => by simp [formRun, hc, hw]⟩
      ·cases hu : u.c with
       | kw k =>
        rw [hu] at hw
        simp only [List.length_cons] at hl
        rcases ih.2 (wantsK k placed) (wantsK_word k placed) r (by omega) with ⟨nm, rg, kids, r', h⟩ | ⟨q, h⟩
        ·exact Or.inl ⟨_, _, .node hc hu hw h⟩
        ·refine Or.inr ⟨q, fun p => ?_⟩
         have := h p
         simp only [formRun, hc, hu]
         rw [if_neg hw]; exact this
       | _ => rw [hu] at hw; exact absurd rfl hw
    | _ => exact Or.inr ⟨t.at_, fun p => by simp [formRun, hc]⟩
  refine ⟨hE, ?_⟩
  intro ws
  induction ws with
  | nil => intro _ l _; exact Or.inl ⟨_, _, _, _, .nil⟩
  | cons x ws ihw =>
   intro hw l hl
   have hw' : Wt.word ∉ ws := fun h => hw (List.mem_cons_of_mem _ h)
   cases x with
   | word => exact absurd List.mem_cons_self hw
   | e =>
    rcases hE l hl with ⟨e, r, h⟩ | ⟨q, h⟩
    ·rcases ihw hw' r (by have := h.len; omega) with ⟨nm, rg, kids, r', h'⟩ | ⟨q, h'⟩
     ·exact Or.inl ⟨_, _, _, _, .e h h'⟩
     ·exact Or.inr ⟨q, fun p => by rw [List.cons_append, h.sound]; exact h' p⟩
    ·exact Or.inr ⟨q, fun p => h _⟩
   | close =>
    cases l with
    | nil => exact Or.inr ⟨len, fun p => rfl⟩
    | cons t r =>
     by_cases hc : t.c = .cls
     ·rcases ihw hw' r (by simp at hl; omega) with ⟨nm, rg, kids, r', h'⟩ | ⟨q, h'⟩
      ·exact Or.inl ⟨_, _, _, _, .close hc h'⟩
      ·exact Or.inr ⟨q, fun p => by simp only [List.cons_append, formRun, if_pos hc]; exact h' p⟩
     ·exact Or.inr ⟨t.at_, fun p => by simp only [List.cons_append, formRun, if_neg hc]⟩
   | name =>
    cases l with
    | nil => exact Or.inr ⟨len, fun p => rfl⟩
    | cons t r =>
     by_cases hc : t.c = .nam
     ·rcases ihw hw' r (by simp at hl; omega) with ⟨nm, rg, kids, r', h'⟩ | ⟨q, h'⟩
      ·exact Or.inl ⟨_, _, _, _, .name hc h'⟩
      ·exact Or.inr ⟨q, fun p => by simp only [List.cons_append, formRun, if_pos hc]; exact h' p⟩
     ·exact Or.inr ⟨t.at_, fun p => by simp only [List.cons_append, formRun, if_neg hc]⟩
   | region =>
    cases l with
    | nil => exact Or.inr ⟨len, fun p => rfl⟩
    | cons t r =>
     by_cases hc : t.c = .reg
     ·rcases ihw hw' r (by simp at hl; omega) with ⟨nm, rg, kids, r', h'⟩ | ⟨q, h'⟩
      ·exact Or.inl ⟨_, _, _, _, .region hc h'⟩
      ·exact Or.inr ⟨q, fun p => by simp only [List.cons_append, formRun, if_pos hc]; exact h' p⟩
     ·exact Or.inr ⟨t.at_, fun p => by simp only [List.cons_append, formRun, if_neg hc]⟩
theorem form_none {placed : Bool} {l : List UInt8} (h : formOf placed l = none) : ∃ e, PE placed (tokens l) e [] := by
 unfold formOf at h
 rcases (parse_total placed l.length (tokens l).length).1 (tokens l) (Nat.le_refl _) with ⟨e, r, hp⟩ | ⟨q, hq⟩
 ·rw [hp.sound] at h
  cases r with
  | nil => exact ⟨e, hp⟩
  | cons t r => simp [formRun] at h
 ·rw [hq] at h; cases h
end Go.Proofs.YtpicaknklgccoaaDoor
namespace Go.Proofs.YtpicaknklgccoaaDoor
open Go.RowKit
theorem blk_cell {w : World} {b : Nat} {arr : Array Value} {t : TypeId} {fr : Nat × Nat} (h : w.heap[b]? = some (.cells arr t fr)) (o : Nat) : w.cell? ⟨b, o, none⟩ = arr[o]? := by
 simp [World.cell?, h]
theorem blk_free {w : World} {b : Nat} {arr : Array Value} {t : TypeId} (h : w.heap[b]? = some (.cells arr t (0, 0))) (o : Nat) : w.frozen? ⟨b, o, none⟩ = false := by
 simp [World.frozen?, h]
theorem blk_set {w : World} {b : Nat} {arr : Array Value} {t : TypeId} {fr : Nat × Nat} (h : w.heap[b]? = some (.cells arr t fr)) (o : Nat) (u : Value) : (w.setCell ⟨b, o, none⟩ u).heap[b]? = some (.cells (arr.setIfInBounds o u) t fr) := by
 simp [World.setCell, Array.getElem?_modify, h]
theorem blk_other {w : World} {b : Nat} (a : Addr) (u : Value) (hb : b ≠ a.block) : (w.setCell a u).heap[b]? = w.heap[b]? := Below.heap_setCell _ _ _ _ hb
theorem blk_lt {w : World} {b : Nat} {o : Obj} (h : w.heap[b]? = some o) : b < w.heap.size := by
 rcases Nat.lt_or_ge b w.heap.size with h1 | h1
 ·exact h1
 ·rw [Array.getElem?_eq_none h1] at h; cases h
theorem blk_alloc {w : World} {b : Nat} {x : Obj} (o : Obj) (h : w.heap[b]? = some x) : (w.alloc o).heap[b]? = some x := by
 rw [Below.heap_alloc _ _ _ (blk_lt h)]; exact h
theorem blk_new (w : World) (o : Obj) : (w.alloc o).heap[w.heap.size]? = some o := by
 show (w.heap.push o)[w.heap.size]? = _; simp
theorem owns_base {w : World} {base base' : Nat} {e : TypeId} {size : Nat} {v : Value} {n : Nat} {xs : List Value} (h : w.ownsRow base e size v n xs) (hb : ∀ k, v.ownBlock = some k → base' ≤ k) : w.ownsRow base' e size v n xs := by
 obtain ⟨h1, h2⟩ := h
 refine ⟨h1, ?_⟩
 rcases h2 with h2 | ⟨g, cap, cur, hv, hg, hh, r⟩
 ·exact Or.inl h2
 ·exact Or.inr ⟨g, cap, cur, hv, hb g (by rw [hv]; rfl), hh, r⟩
theorem owns_blk {w w' : World} {base : Nat} {e : TypeId} {size : Nat} {v : Value} {n : Nat} {xs : List Value} (h : w.ownsRow base e size v n xs) (hb : ∀ k, v.ownBlock = some k → w'.heap[k]? = w.heap[k]?) : w'.ownsRow base e size v n xs := by
 obtain ⟨h1, h2⟩ := h
 refine ⟨h1, ?_⟩
 rcases h2 with h2 | ⟨g, cap, cur, hv, hg, hh, r⟩
 ·exact Or.inl h2
 ·exact Or.inr ⟨g, cap, cur, hv, hg, by rw [hb g (by rw [hv]; rfl)]; exact hh, r⟩
theorem app_own {P : Program} (w : World) {ops : Array Oper} {rest : List Oper} {o : Oper} {a : Act} {Q : Exit → Act → World → Prop} (hgd : o.guard = none)
  (s x : Operand) (t : TypeId) (ho : o.op = Op.call { callee := Callee.builtin Builtin.append, args := #[s, x], argTypes := #[t, t] }) (e : TypeId) (i : TypeInfo)
  (z : Value) (size bytes : Nat) (ht : P.underlying t = some (TypeDesc.slice e)) (hi : P.info? e = some i) (hz : i.zero = some z) (hsize : i.size = size) (hby : i.bytes = bytes)
  (hzs : z.cells.size = size) (hsz : 0 < size) (v : Value) (n : Nat) (xs : List Value) (hs : a.eval s = v) (hown : w.ownsRow 0 e size v n xs) (ad : Addr) (m c : Nat) (news : List Value)
  (hx : a.eval x = Value.slice (some ad) m c) (hl : news.length = m * size) (hnews : ∀ (j : Nat) (u : Value), news[j]? = some u → w.cell? (ad.add j) = some u)
  (h1 : ∀ (u : Value), u ∈ news → u.oneCell' = true) (hm : 0 < m) (h63 : n + m ≤ maxLen) (hbytes : (n + m) * bytes ≤ 140737488355328)
  (h : ∀ (g cap : Nat) (w' : World), w'.ownsRow 0 e size (.slice (some ⟨g, 0, none⟩) (n + m) cap) (n + m) (xs ++ news) → w.grownBy w' v.ownBlock →
   (v.ownBlock = some g ∨ w.heap.size ≤ g) → wpList P ops Q rest (a.put o.dst (.slice (some ⟨g, 0, none⟩) (n + m) cap)) w') :
  wpList P ops Q (o :: rest) a w := by
 have fin : ∀ (v' : Value) (w' : World), w'.ownsRow w.heap.size e size v' (n + m) (xs ++ news) → w.grownBy w' none → wpList P ops Q rest (a.put o.dst v') w' := by
  intro v' w' ho' hg'
  obtain ⟨g, cap, hv'⟩ : ∃ g cap, v' = .slice (some ⟨g, 0, none⟩) (n + m) cap := by
   rcases ho'.2 with ⟨_, hh⟩ | ⟨g, cap, cur, hv, _⟩
   ·omega
   ·exact ⟨_, _, hv⟩
  subst hv'
  have hlt := ho'.lt g rfl
  exact h g cap w' (owns_base ho' (fun k hk => Nat.zero_le _)) ⟨hg'.os, hg'.tape, hg'.output, hg'.size, fun k hk _ => hg'.block k hk (by simp)⟩ (Or.inr hlt.1)
 rcases hown.2 with ⟨hv, hn⟩ | ⟨g, cap, cur, hv, hg, hh, hn, hcm, hcs, htake⟩
 ·subst hn
  have hxs : xs = [] := List.length_eq_zero_iff.1 (by have := hown.1; omega)
  refine wpList_append_grows w hgd s x t ho e i z size bytes ht hi hz hsize hby hzs hsz none 0 0 xs (by rw [hs, hv]) (fun _ => ⟨rfl, rfl⟩) hown.1 (fun b hb => by cases hb) ad m c news hx hl hnews h1 (by omega) h63 hbytes fin
 ·by_cases hroom : n + m ≤ cap
  ·refine wpList_append_fits w hgd s x t ho 0 e i size ht hi hsize g n cap xs (by rw [hs, hv]) (by rw [hv] at hown; exact hown) ad m c news hx hl hnews h1 hroom ?_
   intro w' ho' hg'
   exact h g cap w' ho' (by rw [hv]; exact hg') (Or.inl (by rw [hv]; rfl))
  ·refine wpList_append_grows w hgd s x t ho e i z size bytes ht hi hz hsize hby hzs hsz (some ⟨g, 0, none⟩) n cap xs (by rw [hs, hv]) (fun hh => by cases hh) hown.1 ?_ ad m c news hx hl hnews h1 (by omega) h63 hbytes fin
   intro b hb j u hj
   simp only [Option.some.injEq] at hb
   subst hb
   exact hown.cells (by rw [hv]; rfl) j u hj
def ptr (b : Nat) : Value := .pointer (some ⟨b, 0, none⟩)
def numB : List UInt8 := [110, 117, 109, 98, 101, 114]
def nameB : List UInt8 := [110, 97, 109, 101]
def exCells (op : List UInt8) (p : Nat) (nm : List UInt8) (n : Int) (kids : Value) (id last site : Nat) : Array Value :=
 #[.string (bs op), .int .i64 p, .string (bs nm), .int .i64 n, kids, .int .i64 id, .int .i64 last, .int .i64 site]
mutual
def IsT (w : World) (F : Nat → Prop) : PT → Nat → Nat → Nat → Prop
 | .num p s, id, site, b => F b ∧ w.heap[b]? = some (.cells (exCells numB p [] (valueL s) (.slice none 0 0) id id site) 52 (0, 0))
 | .name p s, id, site, b => F b ∧ w.heap[b]? = some (.cells (exCells nameB p s 0 (.slice none 0 0) id id site) 52 (0, 0))
 | .node p k nm rg kids, id, site, b => F b ∧ ∃ kv bl, w.heap[b]? = some (.cells (exCells k.bytes p nm (valueL rg) kv id (id + cntL kids) site) 52 (0, 0)) ∧
   (∀ g, kv.ownBlock = some g → F g) ∧ w.ownsRow 0 39 1 kv kids.length (bl.map ptr) ∧ IsTs w F kids (id + 1) (site + if k = .pair then 1 else 0) bl
def IsTs (w : World) (F : Nat → Prop) : List PT → Nat → Nat → List Nat → Prop
 | [], _, _, [] => True
 | t :: ts, id, site, b :: bl => IsT w F t id site b ∧ IsTs w F ts (id + t.cnt) (site + t.prs) bl
 | [], _, _, _ :: _ => False
 | _ :: _, _, _, [] => False
end
mutual
theorem IsT.keep {w w' : World} {F F' : Nat → Prop} (hF : ∀ k, F k → F' k) (hk : ∀ k, F k → w'.heap[k]? = w.heap[k]?) : ∀ (t : PT) (id site b : Nat), IsT w F t id site b → IsT w' F' t id site b
 | .num p s, id, site, b, h => by
  simp only [IsT] at h ⊢
  exact ⟨hF _ h.1, by rw [hk _ h.1]; exact h.2⟩
 | .name p s, id, site, b, h => by
  simp only [IsT] at h ⊢
  exact ⟨hF _ h.1, by rw [hk _ h.1]; exact h.2⟩
 | .node p k nm rg kids, id, site, b, h => by
  simp only [IsT] at h ⊢
  obtain ⟨hb, kv, bl, h1, h2, h3, h4⟩ := h
  exact ⟨hF _ hb, kv, bl, by rw [hk _ hb]; exact h1, fun g hg => hF _ (h2 g hg), owns_blk h3 (fun g hg => hk _ (h2 g hg)), IsTs.keep hF hk kids _ _ bl h4⟩
theorem IsTs.keep {w w' : World} {F F' : Nat → Prop} (hF : ∀ k, F k → F' k) (hk : ∀ k, F k → w'.heap[k]? = w.heap[k]?) : ∀ (ts : List PT) (id site : Nat) (bl : List Nat), IsTs w F ts id site bl → IsTs w' F' ts id site bl
 | [], _, _, [], _ => by simp [IsTs]
 | t :: ts, id, site, b :: bl, h => by
  simp only [IsTs] at h ⊢
  exact ⟨IsT.keep hF hk t _ _ b h.1, IsTs.keep hF hk ts _ _ bl h.2⟩
 | [], _, _, _ :: _, h => by simp [IsTs] at h
 | _ :: _, _, _, [], h => by simp [IsTs] at h
end
theorem cntL_snoc (ts : List PT) (t : PT) : cntL (ts ++ [t]) = cntL ts + t.cnt := by
 induction ts with
 | nil => simp [cntL]
 | cons a r ih => simp [cntL, ih]; omega
theorem prsL_snoc (ts : List PT) (t : PT) : prsL (ts ++ [t]) = prsL ts + t.prs := by
 induction ts with
 | nil => simp [prsL]
 | cons a r ih => simp [prsL, ih]; omega
theorem IsTs.snoc {w : World} {F : Nat → Prop} : ∀ (ts : List PT) (id site : Nat) (bl : List Nat) (t : PT) (b : Nat), IsTs w F ts id site bl → IsT w F t (id + cntL ts) (site + prsL ts) b → IsTs w F (ts ++ [t]) id site (bl ++ [b])
 | [], id, site, [], t, b, _, h => by simp only [List.nil_append, IsTs, and_true]; simpa [cntL, prsL] using h
 | a :: ts, id, site, c :: bl, t, b, h, h' => by
  simp only [IsTs] at h
  simp only [List.cons_append, IsTs]
  refine ⟨h.1, IsTs.snoc ts _ _ bl t b h.2 ?_⟩
  simp only [cntL, prsL] at h'
  rw [Nat.add_assoc, Nat.add_assoc]; exact h'
 | [], _, _, _ :: _, _, _, h, _ => by simp [IsTs] at h
 | _ :: _, _, _, [], _, _, h, _ => by simp [IsTs] at h
theorem IsTs.len {w : World} {F : Nat → Prop} : ∀ (ts : List PT) (id site : Nat) (bl : List Nat), IsTs w F ts id site bl → bl.length = ts.length
 | [], _, _, [], _ => rfl
 | t :: ts, id, site, b :: bl, h => by simp only [IsTs] at h; simp [IsTs.len ts _ _ bl h.2]
 | [], _, _, _ :: _, h => by simp [IsTs] at h
 | _ :: _, _, _, [], h => by simp [IsTs] at h
theorem gr_trans {a b c : World} {row : Option Nat} (h : a.grownBy b row) (k : b.grownBy c row) : a.grownBy c row :=
 ⟨k.os.trans h.os, k.tape.trans h.tape, k.output.trans h.output, Nat.le_trans h.size k.size, fun i hi hr => (k.block i (Nat.lt_of_lt_of_le hi h.size) hr).trans (h.block i hi hr)⟩
theorem gr_set (w : World) (p : Addr) (u : Value) : w.grownBy (w.setCell p u) (some p.block) :=
 ⟨rfl, rfl, rfl, by simp [World.setCell], fun k _ hk => Below.heap_setCell _ _ _ _ (fun e => hk (by rw [e]))⟩
theorem gr_alloc (w : World) (o : Obj) (row : Option Nat) : w.grownBy (w.alloc o) row := World.grownBy_alloc w o row
theorem gr_drew (w : World) (row : Option Nat) : w.grownBy w.drew row := ⟨rfl, rfl, rfl, Nat.le_refl _, fun _ _ _ => rfl⟩
structure TokOk (ts : List Tk) : Prop where
 num : ∀ t ∈ ts, t.c = .num → t.s.length ≤ 5
 reg : ∀ t ∈ ts, t.c = .reg → t.s.length ≤ 5
 nam : ∀ t ∈ ts, t.c = .nam → t.s ≠ []
def cntCells (tv : Value) (p ids sites : Nat) : Array Value := #[tv, .int .i64 p, .int .i64 ids, .int .i64 sites]
structure BIn (ts : List Tk) (gt tc cb p ids sites : Nat) (w : World) : Prop where
 ne : gt ≠ cb
 c : w.heap[cb]? = some (.cells (cntCells (.slice (some ⟨gt, 0, none⟩) ts.length tc) p ids sites) 70 (0, 0))
 tk : w.ownsRow 0 66 3 (.slice (some ⟨gt, 0, none⟩) ts.length tc) ts.length (ts.flatMap tkCells)
def BOut (ts : List Tk) (gt tc cb p ids sites : Nat) (w : World) (e : PT) (used : Nat) (v : Ending) (w' : World) : Prop :=
 ∃ b, v = .returned (ptr b) ∧ w'.heap[cb]? = some (.cells (cntCells (.slice (some ⟨gt, 0, none⟩) ts.length tc) (p + used) (ids + e.cnt) (sites + e.prs)) 70 (0, 0)) ∧
  w.grownBy w' (some cb) ∧ IsT w' (fun k => w.heap.size ≤ k ∧ k < w'.heap.size) e ids sites b
theorem leaf_end {w : World} {cb : Nat} {tv : Value} {p ids sites : Nat} (X T : Obj) (hc : w.heap[cb]? = some (.cells (cntCells tv p ids sites) 70 (0, 0))) :
  (((((w.setCell ⟨cb, 2, none⟩ (.int .i64 ((ids : Int) + 1))).setCell ⟨cb, 1, none⟩ (.int .i64 ((p : Int) + 1))).alloc X).alloc T).drew.drew).heap[cb]? = some (.cells (cntCells tv (p + 1) (ids + 1) sites) 70 (0, 0)) ∧
  w.grownBy (((((w.setCell ⟨cb, 2, none⟩ (.int .i64 ((ids : Int) + 1))).setCell ⟨cb, 1, none⟩ (.int .i64 ((p : Int) + 1))).alloc X).alloc T).drew.drew) (some cb) ∧
  (((((w.setCell ⟨cb, 2, none⟩ (.int .i64 ((ids : Int) + 1))).setCell ⟨cb, 1, none⟩ (.int .i64 ((p : Int) + 1))).alloc X).alloc T).drew.drew).heap[w.heap.size]? = some X ∧
  (((((w.setCell ⟨cb, 2, none⟩ (.int .i64 ((ids : Int) + 1))).setCell ⟨cb, 1, none⟩ (.int .i64 ((p : Int) + 1))).alloc X).alloc T).drew.drew).heap.size = w.heap.size + 2 := by
 have e : ((w.setCell ⟨cb, 2, none⟩ (.int .i64 ((ids : Int) + 1))).setCell ⟨cb, 1, none⟩ (.int .i64 ((p : Int) + 1))).heap.size = w.heap.size := by simp [World.setCell]
 refine ⟨?_, ?_, ?_, ?_⟩
 ·show ((((w.setCell ⟨cb, 2, none⟩ (.int .i64 ((ids : Int) + 1))).setCell ⟨cb, 1, none⟩ (.int .i64 ((p : Int) + 1))).alloc X).alloc T).heap[cb]? = _
  exact blk_alloc _ (blk_alloc _ (blk_set (blk_set hc 2 _) 1 _))
 ·exact gr_trans (gr_trans (gr_trans (gr_trans (gr_trans (gr_set w ⟨cb, 2, none⟩ _) (gr_set _ ⟨cb, 1, none⟩ _)) (gr_alloc _ _ _)) (gr_alloc _ _ _)) (gr_drew _ _)) (gr_drew _ _)
 ·show ((((w.setCell ⟨cb, 2, none⟩ (.int .i64 ((ids : Int) + 1))).setCell ⟨cb, 1, none⟩ (.int .i64 ((p : Int) + 1))).alloc X).alloc T).heap[w.heap.size]? = _
  refine blk_alloc _ ?_
  have := blk_new ((w.setCell ⟨cb, 2, none⟩ (.int .i64 ((ids : Int) + 1))).setCell ⟨cb, 1, none⟩ (.int .i64 ((p : Int) + 1))) X
  rw [e] at this; exact this
 ·show ((((w.setCell ⟨cb, 2, none⟩ (.int .i64 ((ids : Int) + 1))).setCell ⟨cb, 1, none⟩ (.int .i64 ((p : Int) + 1))).alloc X).alloc T).heap.size = _
  simp [e]
theorem tk_at {ts : List Tk} {gt tc : Nat} {w : World} {t : Tk} {p : Nat} (h : w.ownsRow 0 66 3 (.slice (some ⟨gt, 0, none⟩) ts.length tc) ts.length (ts.flatMap tkCells)) (ht : ts[p]? = some t) :
  w.cell? ⟨gt, p * 3, none⟩ = some (.string (bs t.s)) ∧ w.cell? ⟨gt, p * 3 + 1, none⟩ = some (.int .i64 t.at_) ∧ w.cell? ⟨gt, p * 3 + 2, none⟩ = some (.string (bs t.c.bytes)) := by
 have hp : p < ts.length := by
  rcases Nat.lt_or_ge p ts.length with h1 | h1
  ·exact h1
  ·rw [List.getElem?_eq_none h1] at ht; cases ht
 refine ⟨?_, ?_, ?_⟩
 ·rw [h.cellAt (p * 3) (by omega)]; exact tk_cell ts p t ht 0 (by omega)
 ·rw [h.cellAt (p * 3 + 1) (by omega)]; exact tk_cell ts p t ht 1 (by omega)
 ·rw [h.cellAt (p * 3 + 2) (by omega)]; exact tk_cell ts p t ht 2 (by omega)
set_option maxRecDepth 100000 in
set_option maxHeartbeats 1000000 in
theorem build_num (ts : List Tk) (hok : TokOk ts) (hl : ts.length ≤ 9000) (gt tc cb p ids sites : Nat) (t : Tk) (w : World) (hin : BIn ts gt tc cb p ids sites w) (ht : ts[p]? = some t) (hp : p < ts.length) (hids : ids ≤ 9000)
  (h1 : t.c = .num) : Calls Tryd.prog 33 #[ptr cb] w (BOut ts gt tc cb p ids sites w (.num t.at_ t.s) 1) := by
 obtain ⟨hne, hc, htk⟩ := hin
 have c0 : w.cell? ⟨cb, 0, none⟩ = some (.slice (some ⟨gt, 0, none⟩) ts.length tc) := by rw [blk_cell hc]; rfl
 have c1 : w.cell? ⟨cb, 1, none⟩ = some (.int .i64 p) := by rw [blk_cell hc]; rfl
 have c2 : w.cell? ⟨cb, 2, none⟩ = some (.int .i64 ids) := by rw [blk_cell hc]; rfl
 have c3 : w.cell? ⟨cb, 3, none⟩ = some (.int .i64 sites) := by rw [blk_cell hc]; rfl
 have f1 : w.frozen? ⟨cb, 1, none⟩ = false := blk_free hc 1
 have f2 : w.frozen? ⟨cb, 2, none⟩ = false := blk_free hc 2
 obtain ⟨t0, t1, t2⟩ := tk_at htk ht
 have hcb := blk_lt hc
 have hgt := (htk.lt gt rfl).2
 have hne' : cb ≠ gt := fun h => hne h.symm
 have HC : Hid _ := hc
 have hsl := hok.num t (List.mem_of_getElem? ht) h1
 have q1 : ((bs t.c.bytes).toList == [78, 85, 77, 66, 69, 82]) = true := by rw [h1, bs_beq]; decide
 have hval := value_any (bs t.s)
 rw [bs_toList] at hval
 clear h1 hc htk ht
 unfold ptr
 go_enter Tryd.func33, Tryd.ntmps33
 go_wp2
 go_region
 go_wp2
 go_region
 go_wp2_with (go_at_call 52; refine (hval _ (by rw [bs_size]; exact hsl)).mono ?_; rintro e w' ⟨rfl, rfl⟩)
 go_ret
 obtain ⟨g1, g2, g3, g4⟩ := leaf_end (.cells (exCells numB t.at_ [] (valueL t.s) (.slice none 0 0) ids ids sites) 52 (0, 0)) (.cells #[.string (bs t.s), .int .i64 t.at_, .string (bs t.c.bytes)] 66) HC.out
 refine ⟨w.heap.size, rfl, g1, g2, ?_⟩
 simp only [IsT]
 exact ⟨⟨Nat.le_refl _, Nat.lt_of_lt_of_eq (by omega : w.heap.size < w.heap.size + 2) g4.symm⟩, g3⟩
set_option maxRecDepth 100000 in
set_option maxHeartbeats 1000000 in
theorem build_name (ts : List Tk) (hl : ts.length ≤ 9000) (gt tc cb p ids sites : Nat) (t : Tk) (w : World) (hin : BIn ts gt tc cb p ids sites w) (ht : ts[p]? = some t) (hp : p < ts.length) (hids : ids ≤ 9000)
  (h1 : t.c = .nam) : Calls Tryd.prog 33 #[ptr cb] w (BOut ts gt tc cb p ids sites w (.name t.at_ t.s) 1) := by
 obtain ⟨hne, hc, htk⟩ := hin
 have c0 : w.cell? ⟨cb, 0, none⟩ = some (.slice (some ⟨gt, 0, none⟩) ts.length tc) := by rw [blk_cell hc]; rfl
 have c1 : w.cell? ⟨cb, 1, none⟩ = some (.int .i64 p) := by rw [blk_cell hc]; rfl
 have c2 : w.cell? ⟨cb, 2, none⟩ = some (.int .i64 ids) := by rw [blk_cell hc]; rfl
 have c3 : w.cell? ⟨cb, 3, none⟩ = some (.int .i64 sites) := by rw [blk_cell hc]; rfl
 have f1 : w.frozen? ⟨cb, 1, none⟩ = false := blk_free hc 1
 have f2 : w.frozen? ⟨cb, 2, none⟩ = false := blk_free hc 2
 obtain ⟨t0, t1, t2⟩ := tk_at htk ht
 have hcb := blk_lt hc
 have hgt := (htk.lt gt rfl).2
 have hne' : cb ≠ gt := fun h => hne h.symm
 have HC : Hid _ := hc
 have q1 : ((bs t.c.bytes).toList == [78, 85, 77, 66, 69, 82]) = false := by rw [h1, bs_beq]; decide
 have q2 : ((bs t.c.bytes).toList == [78, 65, 77, 69]) = true := by rw [h1, bs_beq]; decide
 clear h1 hc htk ht
 unfold ptr
 go_enter Tryd.func33, Tryd.ntmps33
 go_wp2
 go_region
 go_wp2
 go_region
 go_wp2
 go_ret
 obtain ⟨g1, g2, g3, g4⟩ := leaf_end (.cells (exCells nameB t.at_ t.s 0 (.slice none 0 0) ids ids sites) 52 (0, 0)) (.cells #[.string (bs t.s), .int .i64 t.at_, .string (bs t.c.bytes)] 66) HC.out
 refine ⟨w.heap.size, rfl, g1, g2, ?_⟩
 simp only [IsT]
 exact ⟨⟨Nat.le_refl _, Nat.lt_of_lt_of_eq (by omega : w.heap.size < w.heap.size + 2) g4.symm⟩, g3⟩
end Go.Proofs.YtpicaknklgccoaaDoor
namespace Go.Proofs.YtpicaknklgccoaaDoor
def cntE (l : List Wt) : Nat := (l.filter (· = .e)).length
theorem wants_close {k : Kw} {placed : Bool} {done ws : List Wt} (h : wantsK k placed = done ++ .close :: ws) : ws = [] := by
 cases k <;> cases placed <;> simp only [wantsK] at h <;>
 rcases done with _ | ⟨a1, _ | ⟨a2, _ | ⟨a3, _ | ⟨a4, _ | ⟨a5, done⟩⟩⟩⟩⟩ <;> simp at h <;> simp_all
theorem wants_name {k : Kw} {placed : Bool} {done ws : List Wt} (h : wantsK k placed = done ++ .name :: ws) :
  ((k = .let_ ∧ cntE done = 0) ∨ (k = .loop ∧ cntE done = 1)) ∧ Wt.name ∉ done ∧ Wt.name ∉ ws := by
 cases k <;> cases placed <;> simp only [wantsK] at h <;>
 rcases done with _ | ⟨a1, _ | ⟨a2, _ | ⟨a3, _ | ⟨a4, _ | ⟨a5, done⟩⟩⟩⟩⟩ <;> simp at h <;> (try simp_all [cntE]) <;> (try obtain ⟨_, rfl⟩ := h) <;> (try subst_vars) <;> simp
theorem wants_region {k : Kw} {placed : Bool} {done ws : List Wt} (h : wantsK k placed = done ++ .region :: ws) : Wt.region ∉ done ∧ Wt.region ∉ ws := by
 cases k <;> cases placed <;> simp only [wantsK] at h <;>
 rcases done with _ | ⟨a1, _ | ⟨a2, _ | ⟨a3, _ | ⟨a4, _ | ⟨a5, done⟩⟩⟩⟩⟩ <;> simp at h <;> (try simp_all) <;> (try subst_vars) <;> simp
theorem wants_e {k : Kw} {placed : Bool} {done ws : List Wt} (h : wantsK k placed = done ++ .e :: ws) :
  Wt.name ∈ done ∨ (k ≠ .let_ ∧ (k = .loop → cntE done = 0)) := by
 cases k <;> cases placed <;> simp only [wantsK] at h <;>
 rcases done with _ | ⟨a1, _ | ⟨a2, _ | ⟨a3, _ | ⟨a4, _ | ⟨a5, done⟩⟩⟩⟩⟩ <;> simp at h <;> simp_all [cntE]
theorem wants_more {k : Kw} {placed : Bool} {done ws : List Wt} {x : Wt} (h : wantsK k placed = done ++ x :: ws) (hx : x ≠ .close) : ws ≠ [] := by
 cases k <;> cases placed <;> simp only [wantsK] at h <;>
 rcases done with _ | ⟨a1, _ | ⟨a2, _ | ⟨a3, _ | ⟨a4, _ | ⟨a5, done⟩⟩⟩⟩⟩ <;> simp at h <;> intro e <;> subst e <;> simp_all
inductive PWx (Good : List Tk → PT → List Tk → Prop) : List Wt → List Tk → List UInt8 → List UInt8 → List PT → List Tk → Prop
 | nil {r : List Tk} : PWx Good [] r [] [] [] r
 | close {t : Tk} {ws : List Wt} {r r' : List Tk} {nm rg : List UInt8} {kids : List PT} : t.c = .cls → PWx Good ws r nm rg kids r' → PWx Good (.close :: ws) (t :: r) nm rg kids r'
 | name {t : Tk} {ws : List Wt} {r r' : List Tk} {nm rg : List UInt8} {kids : List PT} : t.c = .nam → PWx Good ws r nm rg kids r' → PWx Good (.name :: ws) (t :: r) t.s rg kids r'
 | region {t : Tk} {ws : List Wt} {r r' : List Tk} {nm rg : List UInt8} {kids : List PT} : t.c = .reg → PWx Good ws r nm rg kids r' → PWx Good (.region :: ws) (t :: r) nm t.s kids r'
 | e {e : PT} {ws : List Wt} {l r r' : List Tk} {nm rg : List UInt8} {kids : List PT} : Good l e r → PWx Good ws r nm rg kids r' → PWx Good (.e :: ws) l nm rg (e :: kids) r'
theorem PWx.noname {Good : List Tk → PT → List Tk → Prop} {ws : List Wt} {l : List Tk} {nm rg : List UInt8} {kids : List PT} {r : List Tk} (h : PWx Good ws l nm rg kids r) (hn : Wt.name ∉ ws) : nm = [] := by
 induction h with
 | nil => rfl
 | close _ _ ih => exact ih (fun h => hn (List.mem_cons_of_mem _ h))
 | name _ _ _ => exact absurd List.mem_cons_self hn
 | region _ _ ih => exact ih (fun h => hn (List.mem_cons_of_mem _ h))
 | e _ _ ih => exact ih (fun h => hn (List.mem_cons_of_mem _ h))
theorem PWx.noregion {Good : List Tk → PT → List Tk → Prop} {ws : List Wt} {l : List Tk} {nm rg : List UInt8} {kids : List PT} {r : List Tk} (h : PWx Good ws l nm rg kids r) (hn : Wt.region ∉ ws) : rg = [] := by
 induction h with
 | nil => rfl
 | close _ _ ih => exact ih (fun h => hn (List.mem_cons_of_mem _ h))
 | region _ _ _ => exact absurd List.mem_cons_self hn
 | name _ _ ih => exact ih (fun h => hn (List.mem_cons_of_mem _ h))
 | e _ _ ih => exact ih (fun h => hn (List.mem_cons_of_mem _ h))
mutual
theorem PE.used {placed : Bool} : ∀ {l : List Tk} {e : PT} {r : List Tk}, PE placed l e r → e.cnt + r.length ≤ l.length ∧ e.prs + r.length + 1 ≤ l.length
 | _, _, _, .num _ => by simp [PT.cnt, PT.prs]; omega
 | _, _, _, .name _ => by simp [PT.cnt, PT.prs]; omega
 | _, _, _, .node (k := k) _ _ _ h4 => by have := PW.used h4; simp [PT.cnt, PT.prs]; split <;> omega
theorem PW.used {placed : Bool} : ∀ {ws : List Wt} {l : List Tk} {nm rg : List UInt8} {kids : List PT} {r : List Tk}, PW placed ws l nm rg kids r → cntL kids + r.length ≤ l.length ∧ prsL kids + r.length ≤ l.length
 | _, _, _, _, _, _, .nil => by simp [cntL, prsL]
 | _, _, _, _, _, _, .close _ h1 => by have := PW.used h1; simp; omega
 | _, _, _, _, _, _, .name _ h1 => by have := PW.used h1; simp; omega
 | _, _, _, _, _, _, .region _ h1 => by have := PW.used h1; simp; omega
 | _, _, _, _, _, _, .e h h1 => by have := PE.used h; have := PW.used h1; simp only [cntL, prsL]; omega
end
theorem PE.suffix {placed : Bool} {l : List Tk} {e : PT} {r : List Tk} (h : PE placed l e r) : ∃ t r', l = t :: r' ∧ (t.c = .num ∨ t.c = .nam ∨ t.c = .opn) := by
 cases h with
 | num h => exact ⟨_, _, rfl, Or.inl h⟩
 | name h => exact ⟨_, _, rfl, Or.inr (Or.inl h)⟩
 | node h _ _ _ => exact ⟨_, _, rfl, Or.inr (Or.inr h)⟩
mutual
theorem PE.drop {placed : Bool} : ∀ {l : List Tk} {e : PT} {r : List Tk}, PE placed l e r → ∃ n, r = l.drop n ∧ n ≤ l.length
 | _, _, _, .num _ => ⟨1, by simp, by simp⟩
 | _, _, _, .name _ => ⟨1, by simp, by simp⟩
 | _, _, _, .node _ _ _ h4 => by obtain ⟨n, h, hn⟩ := PW.drop h4; exact ⟨n + 2, by simp [h], by simp; omega⟩
theorem PW.drop {placed : Bool} : ∀ {ws : List Wt} {l : List Tk} {nm rg : List UInt8} {kids : List PT} {r : List Tk}, PW placed ws l nm rg kids r → ∃ n, r = l.drop n ∧ n ≤ l.length
 | _, _, _, _, _, _, .nil => ⟨0, by simp, by simp⟩
 | _, _, _, _, _, _, .close _ h1 => by obtain ⟨n, h, hn⟩ := PW.drop h1; exact ⟨n + 1, by simp [h], by simp; omega⟩
 | _, _, _, _, _, _, .name _ h1 => by obtain ⟨n, h, hn⟩ := PW.drop h1; exact ⟨n + 1, by simp [h], by simp; omega⟩
 | _, _, _, _, _, _, .region _ h1 => by obtain ⟨n, h, hn⟩ := PW.drop h1; exact ⟨n + 1, by simp [h], by simp; omega⟩
 | _, _, _, _, _, _, .e h h1 => by
  obtain ⟨n, hr, hn⟩ := PE.drop h
  obtain ⟨m, hr', hm⟩ := PW.drop h1
  refine ⟨n + m, by rw [hr', hr, List.drop_drop], ?_⟩
  rw [hr] at hm; simp at hm; omega
end
end Go.Proofs.YtpicaknklgccoaaDoor
namespace Go.Proofs.YtpicaknklgccoaaDoor
open Go.Lib (decDigits)
inductive Ty where
 | n
 | p (r : Nat) (a b : Ty)
 deriving DecidableEq
def Ty.txt : Ty → List UInt8
 | .n => [110]
 | .p r a b => 60 :: (decDigits r ++ 58 :: (a.txt ++ (b.txt ++ [62])))
def Ty.size : Ty → Nat
 | .n => 0
 | .p _ a b => a.size + b.size + 1
def Ty.bare : Ty → Ty
 | .n => .n
 | .p _ a b => .p 0 a.bare b.bare
def Ty.plain : Ty → List UInt8
 | .n => [110]
 | .p _ a b => 60 :: (a.plain ++ (b.plain ++ [62]))
def digitB (c : UInt8) : Bool := decide (48 ≤ c.toNat) && decide (c.toNat ≤ 57)
theorem dec_digit (u : Nat) : ∀ c ∈ decDigits u, digitB c = true := by
 induction u using Nat.strongRecOn with
 | _ u ih =>
  rw [decDigits]
  have key : ∀ k, k < 10 → digitB (UInt8.ofNat (48 + k)) = true := by
   intro k hk
   unfold digitB
   have : (UInt8.ofNat (48 + k)).toNat = 48 + k := by simp; omega
   rw [this]; simp; omega
  split
  ·intro c hc; rw [List.mem_singleton] at hc; subst hc; exact key u (by omega)
  ·intro c hc
   rw [List.mem_append] at hc
   rcases hc with hc | hc
   ·exact ih (u / 10) (by omega) c hc
   ·rw [List.mem_singleton] at hc; subst hc; exact key _ (by omega)
theorem digit_ne {c : UInt8} (h : digitB c = true) : c ≠ 58 ∧ c ≠ 60 ∧ c ≠ 62 ∧ c ≠ 110 := by
 unfold digitB at h
 simp only [Bool.and_eq_true, decide_eq_true_eq] at h
 refine ⟨?_, ?_, ?_, ?_⟩ <;> (intro e; subst e; revert h; decide)
def endL : Int → List UInt8 → Nat
 | _, [] => 0
 | o, c :: r =>
  let o' := if c = 60 then o + 1 else if c = 62 then o - 1 else o
  if o' = 0 ∧ (c = 110 ∨ c = 62) then 1 else 1 + endL o' r
theorem endL_lt (o : Int) (r : List UInt8) : endL o (60 :: r) = 1 + endL (o + 1) r := by simp [endL]
theorem endL_gt0 (r : List UInt8) : endL 1 (62 :: r) = 1 := by simp [endL]
theorem endL_gt (o : Int) (r : List UInt8) (h : o ≠ 1) : endL o (62 :: r) = 1 + endL (o - 1) r := by
 have h' : ¬ (o - 1 = 0) := by omega
 simp [endL, h']
theorem endL_n (o : Int) (r : List UInt8) (h : o ≠ 0) : endL o (110 :: r) = 1 + endL o r := by
 simp [endL, h]
theorem endL_skip (o : Int) (c : UInt8) (r : List UInt8) (h1 : c ≠ 60) (h2 : c ≠ 62) (h3 : c ≠ 110) : endL o (c :: r) = 1 + endL o r := by
 simp [endL, h1, h2, h3]
theorem endL_digits (o : Int) (l r : List UInt8) (h : ∀ c ∈ l, digitB c = true) : endL o (l ++ r) = l.length + endL o r := by
 induction l with
 | nil => simp
 | cons c l ih =>
  have hc := digit_ne (h c List.mem_cons_self)
  rw [List.cons_append, endL_skip o c _ hc.2.1 hc.2.2.1 hc.2.2.2, ih (fun c hc => h c (List.mem_cons_of_mem _ hc))]
  simp; omega
theorem endL_open (t : Ty) : ∀ (o : Int) (r : List UInt8), 0 < o → endL o (t.txt ++ r) = t.txt.length + endL o r := by
 induction t with
 | n => intro o r ho; simp only [Ty.txt, List.cons_append, List.nil_append]; rw [endL_n _ _ (by omega)]; simp
 | p q a b iha ihb =>
  intro o r ho
  simp only [Ty.txt, List.cons_append, List.append_assoc]
  rw [endL_lt, endL_digits _ _ _ (dec_digit q), endL_skip _ 58 _ (by decide) (by decide) (by decide), iha _ _ (by omega), ihb _ _ (by omega), List.nil_append, endL_gt _ _ (by omega)]
  rw [show o + 1 - 1 = o from by omega]
  simp; omega
theorem endL_txt (t : Ty) (r : List UInt8) : endL 0 (t.txt ++ r) = t.txt.length := by
 cases t with
 | n => simp [Ty.txt, endL]
 | p q a b =>
  simp only [Ty.txt, List.cons_append, List.append_assoc]
  rw [endL_lt, endL_digits _ _ _ (dec_digit q), endL_skip _ 58 _ (by decide) (by decide) (by decide), endL_open a _ _ (by omega), endL_open b _ _ (by omega), List.nil_append, Int.zero_add, endL_gt0]
  simp; omega
theorem size_digits (l : List UInt8) (h : ∀ c ∈ l, digitB c = true) : sizeL l = 0 := by
 induction l with
 | nil => rfl
 | cons c l ih =>
  have hc := digit_ne (h c List.mem_cons_self)
  have := ih (fun c hc => h c (List.mem_cons_of_mem _ hc))
  unfold sizeL at this ⊢
  rw [List.filter_cons, if_neg (by simpa using hc.2.1)]; exact this
theorem sizeL_append (a b : List UInt8) : sizeL (a ++ b) = sizeL a + sizeL b := by simp [sizeL]
theorem sizeL_cons (c : UInt8) (l : List UInt8) : sizeL (c :: l) = (if c = 60 then 1 else 0) + sizeL l := by
 unfold sizeL; rw [List.filter_cons]; by_cases h : c = 60 <;> simp [h]; omega
theorem size_txt (t : Ty) : sizeL t.txt = t.size := by
 induction t with
 | n => rfl
 | p q a b iha ihb =>
  simp only [Ty.txt, Ty.size, sizeL_cons, sizeL_append, iha, ihb, size_digits _ (dec_digit q)]
  have : sizeL [] = 0 := rfl
  rw [this]; simp; omega
theorem txt_ne (t : Ty) : t.txt ≠ [] := by cases t <;> simp [Ty.txt]
theorem plain_inj_aux (t : Ty) : ∀ (u : Ty) (r r' : List UInt8), t.plain ++ r = u.plain ++ r' → t.bare = u.bare ∧ r = r' := by
 induction t with
 | n => intro u r r' h; cases u with
  | n => simp [Ty.plain] at h; exact ⟨rfl, h⟩
  | p q a b => simp [Ty.plain] at h
 | p q a b iha ihb => intro u r r' h; cases u with
  | n => simp [Ty.plain] at h
  | p q' a' b' =>
   simp only [Ty.plain, List.cons_append, List.cons.injEq, List.append_assoc, true_and] at h
   obtain ⟨h1, h2⟩ := iha _ _ _ h
   obtain ⟨h3, h4⟩ := ihb _ _ _ h2
   simp only [List.nil_append, List.cons.injEq, true_and] at h4
   exact ⟨by simp [Ty.bare, h1, h3], h4⟩
theorem plain_inj (t u : Ty) : (t.plain = u.plain) ↔ t.bare = u.bare := by
 constructor
 ·intro h; exact (plain_inj_aux t u [] [] (by rw [h])).1
 ·intro h
  have : ∀ t : Ty, t.plain = t.bare.plain := by
   intro t; induction t with
   | n => rfl
   | p q a b iha ihb => simp [Ty.plain, Ty.bare, ← iha, ← ihb]
  rw [this t, this u, h]
end Go.Proofs.YtpicaknklgccoaaDoor
