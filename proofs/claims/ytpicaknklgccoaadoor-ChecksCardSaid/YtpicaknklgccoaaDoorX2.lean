import Derived.Test.YtpicaknklgccoaaDoorX1
namespace Go.Proofs.YtpicaknklgccoaaDoor
open Go.RowKit

def formInt (o : Option Nat) : Int := match o with
  | some p => p
  | none => -1

theorem cl_beq (c d : Cl) : ((bs c.bytes).toList == d.bytes) = decide (c = d) := by
  rw [bs_beq]
  rcases c with _ | _ | _ | _ | _ | _ | k <;> rcases d with _ | _ | _ | _ | _ | _ | k' <;> first | decide | (cases k <;> decide) | (cases k' <;> decide) | (cases k <;> cases k' <;> decide)

/-- what lies in the row of the tokens -/
theorem tk_cell (ts : List Tk) (k : Nat) (t : Tk) (h : ts[k]? = some t) (j : Nat) (hj : j < 3) : (ts.flatMap tkCells)[k * 3 + j]? = (tkCells t)[j]? := by
  induction ts generalizing k with
  | nil => simp at h
  | cons a r ih =>
    cases k with
    | zero =>
      simp at h; subst h
      rw [List.flatMap_cons, List.getElem?_append_left (by simp [tkCells]; omega)]; simp
    | succ k =>
      simp at h
      rw [List.flatMap_cons, List.getElem?_append_right (by simp [tkCells]; omega)]
      have : (k + 1) * 3 + j - (tkCells a).length = k * 3 + j := by simp [tkCells]; omega
      rw [this]; exact ih k h

theorem alloc_cell_at (w : World) (l : List Value) (e : TypeId) (j : Nat) : (w.alloc (.cells l.toArray e)).cell? (Addr.add ⟨w.heap.size, 0, none⟩ j) = l[j]? := by
  rcases j with _ | j <;> simp [Addr.add]

theorem wants_no (c : Cl) (placed : Bool) (w : World) (h : wantsC c placed = []) :
    Calls Tryd.prog 32 #[.string (bs c.bytes), .bool placed] w fun e w' => e = .returned (.slice none 0 0) ∧ w' = w := by
  refine (wants_any c placed w).mono ?_
  rintro e w' (⟨_, h1, h2⟩ | ⟨h0, _⟩)
  · exact ⟨h1, h2⟩
  · exact absurd h h0
theorem wants_yes (c : Cl) (placed : Bool) (w : World) (h : wantsC c placed ≠ []) :
    Calls Tryd.prog 32 #[.string (bs c.bytes), .bool placed] w fun e w' => e = .returned (.slice (some ⟨w.heap.size, 0, none⟩) (wantsC c placed).length (wantsC c placed).length) ∧ w' = w.alloc (.cells (((wantsC c placed).map wtVal).reverse).toArray 9) := by
  refine (wants_any c placed w).mono ?_
  rintro e w' (⟨h0, _⟩ | ⟨_, h1, h2⟩)
  · exact absurd h0 h
  · exact ⟨h1, h2⟩

theorem wtVal_len (p : List Wt) : ((p.map wtVal).reverse).length = p.length * 1 := by simp

set_option maxRecDepth 100000 in
set_option maxHeartbeats 4000000 in
theorem Form_any (s : ByteArray) (placed : Bool) (w : World) (hs : s.size ≤ 9000) :
    Calls Tryd.prog 17 #[.string s, .bool placed] w fun e w' => e = .returned (.int .i64 (formInt (formOf placed s.data.toList))) ∧ Below w.heap.size w w' := by
  obtain ⟨i0, hi, hz0, hz1, hz2⟩ := info_parts Tryd.infoStr
  have HI : Hid _ := hi
  have HZ0 : Hid _ := hz0
  have HZ1 : Hid _ := hz1
  have HZ2 : Hid _ := hz2
  clear hi hz0 hz1 hz2
  have htk := Tokens_any s
  unfold formOf
  rw [size_list]
  obtain ⟨ts, hts⟩ : ∃ ts, ts = tokens s.data.toList := ⟨_, rfl⟩
  have htl : ts.length ≤ s.size := by rw [hts]; have := toks_len s.data.toList.length 0 s.data.toList; rw [size_list] at this; unfold tokens; rw [size_list]; exact this
  rw [← hts] at htk ⊢
  clear hts
  go_enter Tryd.func17, Tryd.ntmps17
  go_wp2_with (first
    | (go_at_call 31; refine (htk _ hs).mono ?_; rintro e w1 ⟨tv, rfl, htown, htb⟩))
  have HTO : Hid (w1.ownsRow w.heap.size 66 3 tv ts.length (ts.flatMap tkCells)) := htown
  have HTB : Hid _ := htb
  have hw1 := htb.size
  clear htown htb htk
  obtain ⟨ta, tn, tc, htv, htn⟩ : ∃ ta tn tc, tv = .slice ta tn tc ∧ tn = ts.length := by
    rcases HTO.out.2 with ⟨h, h'⟩ | ⟨g, cap, cur, h, _⟩
    · exact ⟨_, _, _, h, h'.symm⟩
    · exact ⟨_, _, _, h, rfl⟩
  subst htn
  rw [htv]
  have HTV : Hid _ := htv
  clear htv
  go_loopw [6, 7] (fun v i wr => ∃ (k : Nat) (pile : List Wt) (g cap : Nat), k ≤ ts.length ∧ i = .int .i64 k ∧ v = .slice (some ⟨g, 0, none⟩) pile.length cap ∧
      wr.ownsRow w1.heap.size 9 1 (.slice (some ⟨g, 0, none⟩) pile.length cap) pile.length ((pile.map wtVal).reverse) ∧ Below w1.heap.size w1 wr ∧ pile.length ≤ 5 * k + 1 ∧
      formRun placed s.size ts [.e] = formRun placed s.size (ts.drop k) pile) (fun _ i _ => ts.length - (intOf i).toNat)
  case atStart =>
    refine ⟨0, [.e], w1.heap.size, 1, by omega, rfl, rfl, ?_, ?_, by simp, by simp⟩
    · refine ⟨rfl, Or.inr ⟨w1.heap.size, 1, #[wtVal .e], rfl, Nat.le_refl _, ?_, by simp, by decide, rfl, rfl⟩⟩
      show (w1.heap.push _)[w1.heap.size]? = _; simp [wtVal, Wt.bytes, bs]
    · exact (Below.refl _ _).alloc (Nat.le_refl _) _
  case round =>
    obtain ⟨k, pile, g, cap, hk, rfl, rfl, hown, hbel, hpl, hall⟩ := hrel
    have HA : Hid _ := hall
    have HO : Hid (wr.ownsRow w1.heap.size 9 1 (.slice (some ⟨g, 0, none⟩) pile.length cap) pile.length ((pile.map wtVal).reverse)) := hown
    have HB : Hid _ := hbel
    have hsz := hbel.size
    clear hall hown hbel
    by_cases hlt : k < ts.length
    · obtain ⟨t, ht⟩ : ∃ t, ts[k]? = some t := ⟨ts[k], List.getElem?_eq_getElem hlt⟩
      obtain ⟨gt, hgt⟩ : ∃ gt, ta = some ⟨gt, 0, none⟩ := by
        have h := HTO.out.2
        rw [HTV.out] at h
        rcases h with ⟨h, h'⟩ | ⟨g, cap, cur, h, _⟩
        · omega
        · simp only [Value.slice.injEq] at h; exact ⟨_, h.1⟩
      have hcw : ∀ j, j < 3 → w1.cell? ⟨gt, k * 3 + j, none⟩ = (tkCells t)[j]? := by
        intro j hj
        have h : w1.ownsRow w.heap.size 66 3 (.slice (some ⟨gt, 0, none⟩) ts.length tc) ts.length (ts.flatMap tkCells) := by rw [← hgt, ← HTV.out]; exact HTO.out
        rw [h.cellAt (k * 3 + j) (by omega)]
        exact tk_cell ts k t ht j hj
      have hgtw : gt < w1.heap.size := (HTO.out.lt gt (by rw [HTV.out, hgt]; rfl)).2
      subst hgt
      have hcl : ∀ j, j < 3 → wr.cell? ⟨gt, k * 3 + j, none⟩ = (tkCells t)[j]? := fun j hj => (HB.out.cell (p := ⟨gt, k * 3 + j, none⟩) hgtw).trans (hcw j hj)
      have hc1 : wr.cell? ⟨gt, k * 3 + 1, none⟩ = some (.int .i64 t.at_) := hcl 1 (by omega)
      have hc2 : wr.cell? ⟨gt, k * 3 + 2, none⟩ = some (.string (bs t.c.bytes)) := hcl 2 (by omega)
      have hd : ts.drop k = t :: ts.drop (k + 1) := by rw [List.drop_eq_getElem_cons hlt]; rw [List.getElem?_eq_getElem hlt] at ht; simp only [Option.some.injEq] at ht; rw [ht]
      have HD : Hid _ := hd
      clear hcl hcw ht hd
      cases pile with
      | nil => 
        simp only [List.length_nil] at *
        go_wp2
        go_ret
        exact ⟨ret_int (by rw [HA.out, HD.out]; simp [formRun, formInt]), (HTB.out.trans (HB.out.mono hw1))⟩
      | cons x p => 
        have hpc : wr.cell? ⟨g, p.length, none⟩ = some (wtVal x) := by
          rw [HO.out.cellAt p.length (by simp)]; simp
        have HO2 : Hid (wr.ownsRow w1.heap.size 9 1 (.slice (some ⟨g, 0, none⟩) p.length cap) p.length ((p.map wtVal).reverse)) := by
          refine ownsRow_pop (last := [wtVal x]) (by simp) ?_
          have := HO.out; simpa using this
        have hpcap : p.length + 1 ≤ cap := by
          rcases HO.out.2 with ⟨h, h'⟩ | ⟨g', cap', cur, h, _, _, h3, _⟩
          · simp at h'
          · simp only [Value.slice.injEq] at h; simp at h3; omega
        simp only [List.length_cons] at *
        cases x with
        | close =>
          simp only [wtVal, Wt.bytes] at hpc
          have q1 : ((bs [41]).toList == [101]) = false := by rw [bs_beq]; decide
          have q2 : ((bs [41]).toList == [119, 111, 114, 100]) = false := by rw [bs_beq]; decide
          have hq : ((bs t.c.bytes).toList == (bs [41]).toList) = decide (t.c = Cl.cls) := by
            have := cl_beq t.c Cl.cls
            rw [Lib.toList_data (bs [41])]; exact this
          by_cases hc : t.c = Cl.cls
          · rw [decide_eq_true hc] at hq
            have HC : Hid _ := hc
            clear hc
            go_wp2
            go_roundw
            case rel => exact ⟨k + 1, p, g, cap, by omega, by go_num, rfl, HO2.out, HB.out, by omega, by rw [HA.out, HD.out]; simp only [formRun]; rw [if_pos HC.out]⟩
            case measure => simp [intOf]; omega
          · rw [decide_eq_false hc] at hq
            have HC : Hid _ := hc
            clear hc
            go_wp2
            go_ret
            exact ⟨ret_int (by rw [HA.out, HD.out]; simp only [formRun]; rw [if_neg HC.out]; rfl), (HTB.out.trans (HB.out.mono hw1))⟩
        | name =>
          simp only [wtVal, Wt.bytes] at hpc
          have q1 : ((bs [78, 65, 77, 69]).toList == [101]) = false := by rw [bs_beq]; decide
          have q2 : ((bs [78, 65, 77, 69]).toList == [119, 111, 114, 100]) = false := by rw [bs_beq]; decide
          have hq : ((bs t.c.bytes).toList == (bs [78, 65, 77, 69]).toList) = decide (t.c = Cl.nam) := by
            have := cl_beq t.c Cl.nam
            rw [Lib.toList_data (bs [78, 65, 77, 69])]; exact this
          by_cases hc : t.c = Cl.nam
          · rw [decide_eq_true hc] at hq
            have HC : Hid _ := hc
            clear hc
            go_wp2
            go_roundw
            case rel => exact ⟨k + 1, p, g, cap, by omega, by go_num, rfl, HO2.out, HB.out, by omega, by rw [HA.out, HD.out]; simp only [formRun]; rw [if_pos HC.out]⟩
            case measure => simp [intOf]; omega
          · rw [decide_eq_false hc] at hq
            have HC : Hid _ := hc
            clear hc
            go_wp2
            go_ret
            exact ⟨ret_int (by rw [HA.out, HD.out]; simp only [formRun]; rw [if_neg HC.out]; rfl), (HTB.out.trans (HB.out.mono hw1))⟩
        | region =>
          simp only [wtVal, Wt.bytes] at hpc
          have q1 : ((bs [82, 69, 71, 73, 79, 78]).toList == [101]) = false := by rw [bs_beq]; decide
          have q2 : ((bs [82, 69, 71, 73, 79, 78]).toList == [119, 111, 114, 100]) = false := by rw [bs_beq]; decide
          have hq : ((bs t.c.bytes).toList == (bs [82, 69, 71, 73, 79, 78]).toList) = decide (t.c = Cl.reg) := by
            have := cl_beq t.c Cl.reg
            rw [Lib.toList_data (bs [82, 69, 71, 73, 79, 78])]; exact this
          by_cases hc : t.c = Cl.reg
          · rw [decide_eq_true hc] at hq
            have HC : Hid _ := hc
            clear hc
            go_wp2
            go_roundw
            case rel => exact ⟨k + 1, p, g, cap, by omega, by go_num, rfl, HO2.out, HB.out, by omega, by rw [HA.out, HD.out]; simp only [formRun]; rw [if_pos HC.out]⟩
            case measure => simp [intOf]; omega
          · rw [decide_eq_false hc] at hq
            have HC : Hid _ := hc
            clear hc
            go_wp2
            go_ret
            exact ⟨ret_int (by rw [HA.out, HD.out]; simp only [formRun]; rw [if_neg HC.out]; rfl), (HTB.out.trans (HB.out.mono hw1))⟩
        | e =>
          simp only [wtVal, Wt.bytes] at hpc
          have q1 : ((bs [101]).toList == [101]) = true := by rw [bs_beq]; decide
          have o1 : ((bs t.c.bytes).toList == [40]) = decide (t.c = .opn) := cl_beq t.c .opn
          have o2 : ((bs t.c.bytes).toList == [78, 85, 77, 66, 69, 82]) = decide (t.c = .num) := cl_beq t.c .num
          have o3 : ((bs t.c.bytes).toList == [78, 65, 77, 69]) = decide (t.c = .nam) := cl_beq t.c .nam
          by_cases h1 : t.c = .opn
          · rw [decide_eq_true h1] at o1
            have HC : Hid _ := h1
            clear h1 o2 o3
            go_wp2_with (at_builtin; refine wpList_append_own _ rfl (.tmp 57) (.tmp 58) 53 rfl w1.heap.size 9 i0 _ 1 16 Tryd.undStrs HI.out HZ0.out HZ1.out HZ2.out rfl (by decide) _ p.length ((p.map wtVal).reverse) rfl (HO2.out.alloc _) ⟨wr.heap.size, 0, none⟩ 1 1 [wtVal .word] rfl rfl ?d1 ?d2 ?d3 ?d4 ?d5 ?_)
            case d1 =>
              intro j u hj
              match j, hj with
              | 0, hj => simp at hj; subst hj; simp [Addr.add, wtVal, Wt.bytes, bs]
              | j + 1, hj => simp at hj
            case d2 => intro u hu; simp at hu; subst hu; rfl
            case d3 => unfold maxLen; omega
            case d4 => omega
            case d5 => simp; omega
            intro v' w2 hown' hgrow hnil
            have HB2 : Hid (Below w1.heap.size w1 w2) := (HB.out.alloc hsz _).grown hgrow (by simp; omega) (fun b hb => (World.ownsRow.lt HO2.out b hb).1)
            obtain ⟨g2, cap2, hv2⟩ : ∃ g2 cap2, v' = .slice (some ⟨g2, 0, none⟩) (p.length + 1) cap2 := by
              rcases hown'.2 with ⟨h, h'⟩ | ⟨g', cap', cur, h, _⟩
              · omega
              · exact ⟨_, _, h⟩
            rw [hv2] at hown' ⊢
            have HO3 : Hid (w2.ownsRow w1.heap.size 9 1 (.slice (some ⟨g2, 0, none⟩) (p.length + 1) cap2) (p.length + 1) ((p.map wtVal).reverse ++ [wtVal .word])) := hown'
            clear hown' hgrow hnil hv2
            go_wp2
            go_roundw
            case rel => exact ⟨k + 1, .word :: p, g2, cap2, by omega, by go_num, rfl, by have := HO3.out; simpa using this, HB2.out, by simp; omega, by rw [HA.out, HD.out]; simp only [formRun]; rw [HC.out]⟩
            case measure => simp [intOf]; omega
          · rw [decide_eq_false h1] at o1
            by_cases h2 : t.c = .num
            · rw [decide_eq_true h2] at o2
              have HC : Hid _ := h2
              clear h1 h2 o3
              go_wp2
              go_roundw
              case rel => exact ⟨k + 1, p, g, cap, by omega, by go_num, rfl, HO2.out, HB.out, by omega, by rw [HA.out, HD.out]; simp only [formRun]; rw [HC.out]⟩
              case measure => simp [intOf]; omega
            · rw [decide_eq_false h2] at o2
              by_cases h3 : t.c = .nam
              · rw [decide_eq_true h3] at o3
                have HC : Hid _ := h3
                clear h1 h2 h3
                go_wp2
                go_roundw
                case rel => exact ⟨k + 1, p, g, cap, by omega, by go_num, rfl, HO2.out, HB.out, by omega, by rw [HA.out, HD.out]; simp only [formRun]; rw [HC.out]⟩
                case measure => simp [intOf]; omega
              · rw [decide_eq_false h3] at o3
                have HC : Hid (t.c ≠ .opn ∧ t.c ≠ .num ∧ t.c ≠ .nam) := ⟨h1, h2, h3⟩
                clear h1 h2 h3
                go_wp2
                go_ret
                refine ⟨ret_int ?_, (HTB.out.trans (HB.out.mono hw1))⟩
                rw [HA.out, HD.out]
                have := HC.out
                simp only [formRun]
                split <;> simp_all [formInt]
        | word =>
          simp only [wtVal, Wt.bytes] at hpc
          have q1 : ((bs [119, 111, 114, 100]).toList == [101]) = false := by rw [bs_beq]; decide
          have q2 : ((bs [119, 111, 114, 100]).toList == [119, 111, 114, 100]) = true := by rw [bs_beq]; decide
          by_cases h1 : wantsC t.c placed = []
          · have hwn := fun w => wants_no t.c placed w h1
            have HC : Hid _ := h1
            clear h1
            go_wp2_with (go_at_call 32; refine (hwn _).mono ?_; rintro e w' ⟨rfl, rfl⟩)
            go_ret
            exact ⟨ret_int (by rw [HA.out, HD.out]; simp only [formRun]; rw [if_pos HC.out]; rfl), (HTB.out.trans (HB.out.mono hw1))⟩
          · have hwn := fun w => wants_yes t.c placed w h1
            have hl := wantsC_len t.c placed
            have HC : Hid _ := h1
            obtain ⟨more, hm⟩ : ∃ more, more = wantsC t.c placed := ⟨_, rfl⟩
            have hmp : 0 < more.length := by rw [hm]; exact List.length_pos_iff.2 h1
            rw [← hm] at hwn hl
            have HM : Hid _ := hm
            have hb0 : ((more.length : Int) == 0) = false := by rw [beq_eq_false_iff_ne]; omega
            clear h1 hm
            go_wp2_with (first
              | (go_at_call 32; refine (hwn _).mono ?_; rintro e w' ⟨rfl, rfl⟩)
              | (at_builtin; refine wpList_append_own _ rfl (.tmp 84) (.tmp 85) 53 rfl w1.heap.size 9 i0 _ 1 16 Tryd.undStrs HI.out HZ0.out HZ1.out HZ2.out rfl (by decide) _ p.length ((p.map wtVal).reverse) rfl (HO2.out.alloc _) ⟨wr.heap.size, 0, none⟩ more.length more.length ((more.map wtVal).reverse) rfl (by simp) ?d1 ?d2 ?d3 ?d4 ?d5 ?_))
            case d1 =>
              intro j u hj
              rw [← hj]
              exact alloc_cell_at _ _ _ _
            case d2 => intro u hu; simp at hu; obtain ⟨x, _, rfl⟩ := hu; rfl
            case d3 => unfold maxLen; omega
            case d4 => omega
            case d5 => simp; omega
            intro v' w2 hown' hgrow hnil
            have HB2 : Hid (Below w1.heap.size w1 w2) := (HB.out.alloc hsz _).grown hgrow (by simp; omega) (fun b hb => (World.ownsRow.lt HO2.out b hb).1)
            obtain ⟨g2, cap2, hv2⟩ : ∃ g2 cap2, v' = .slice (some ⟨g2, 0, none⟩) (p.length + more.length) cap2 := by
              rcases hown'.2 with ⟨h, h'⟩ | ⟨g', cap', cur, h, _⟩
              · omega
              · exact ⟨_, _, h⟩
            rw [hv2] at hown' ⊢
            have HO3 : Hid (w2.ownsRow w1.heap.size 9 1 (.slice (some ⟨g2, 0, none⟩) (p.length + more.length) cap2) (p.length + more.length) ((p.map wtVal).reverse ++ (more.map wtVal).reverse)) := hown'
            clear hown' hgrow hnil hv2
            go_wp2
            go_roundw
            case rel =>
              refine ⟨k + 1, more ++ p, g2, cap2, by omega, by go_num, by simp; omega, ?_, HB2.out, by simp; omega, by rw [HA.out, HD.out]; simp only [formRun]; rw [if_neg HC.out, ← HM.out]⟩
              have := HO3.out
              have e1 : (more ++ p).length = p.length + more.length := by simp; omega
              rw [e1]
              simpa using this
            case measure => simp [intOf]; omega
    · have hkk : k = ts.length := by omega
      have hd : ts.drop k = [] := by rw [hkk]; simp
      have HD : Hid _ := hd
      clear hd
      cases pile with
      | nil =>
        simp only [List.length_nil] at *
        go_wp2
        go_ret
        exact ⟨ret_int (by rw [HA.out, HD.out]; simp [formRun, formInt]), (HTB.out.trans (HB.out.mono hw1))⟩
      | cons x p =>
        simp only [List.length_cons] at *
        go_wp2
        go_ret
        exact ⟨ret_int (by rw [HA.out, HD.out]; simp [formRun, formInt]), (HTB.out.trans (HB.out.mono hw1))⟩
end Go.Proofs.YtpicaknklgccoaaDoor

/- Plain mathematics: the tree of a program, and how the pile of Mb comes to it. -/
namespace Go.Proofs.YtpicaknklgccoaaDoor

inductive PT where
  | num (p : Nat) (s : List UInt8)
  | name (p : Nat) (s : List UInt8)
  | node (p : Nat) (k : Kw) (nm rg : List UInt8) (kids : List PT)

mutual
def PT.cnt : PT → Nat
  | .num _ _ => 1
  | .name _ _ => 1
  | .node _ _ _ _ kids => 1 + cntL kids
def cntL : List PT → Nat
  | [] => 0
  | t :: r => t.cnt + cntL r
end

mutual
def PT.prs : PT → Nat
  | .num _ _ => 0
  | .name _ _ => 0
  | .node _ k _ _ kids => (if k = .pair then 1 else 0) + prsL kids
def prsL : List PT → Nat
  | [] => 0
  | t :: r => t.prs + prsL r
end

mutual
inductive PE (placed : Bool) : List Tk → PT → List Tk → Prop
  | num {t : Tk} {r : List Tk} : t.c = .num → PE placed (t :: r) (.num t.at_ t.s) r
  | name {t : Tk} {r : List Tk} : t.c = .nam → PE placed (t :: r) (.name t.at_ t.s) r
  | node {t u : Tk} {k : Kw} {r r' : List Tk} {nm rg : List UInt8} {kids : List PT} : t.c = .opn → u.c = .kw k → wantsK k placed ≠ [] →
      PW placed (wantsK k placed) r nm rg kids r' → PE placed (t :: u :: r) (.node t.at_ k nm rg kids) r'
inductive PW (placed : Bool) : List Wt → List Tk → List UInt8 → List UInt8 → List PT → List Tk → Prop
  | nil {r : List Tk} : PW placed [] r [] [] [] r
  | close {t : Tk} {ws : List Wt} {r r' : List Tk} {nm rg : List UInt8} {kids : List PT} : t.c = .cls → PW placed ws r nm rg kids r' → PW placed (.close :: ws) (t :: r) nm rg kids r'
  | name {t : Tk} {ws : List Wt} {r r' : List Tk} {nm rg : List UInt8} {kids : List PT} : t.c = .nam → PW placed ws r nm rg kids r' → PW placed (.name :: ws) (t :: r) t.s rg kids r'
  | region {t : Tk} {ws : List Wt} {r r' : List Tk} {nm rg : List UInt8} {kids : List PT} : t.c = .reg → PW placed ws r nm rg kids r' → PW placed (.region :: ws) (t :: r) nm t.s kids r'
  | e {e : PT} {ws : List Wt} {l r r' : List Tk} {nm rg : List UInt8} {kids : List PT} : PE placed l e r → PW placed ws r nm rg kids r' → PW placed (.e :: ws) l nm rg (e :: kids) r'
end

mutual
theorem PE.sound {placed : Bool} {len : Nat} : ∀ {l : List Tk} {e : PT} {r : List Tk}, PE placed l e r → ∀ p, formRun placed len l (.e :: p) = formRun placed len r p
  | _, _, _, .num h, p => by simp [formRun, h]
  | _, _, _, .name h, p => by simp [formRun, h]
  | _, _, _, .node (k := k) h1 h2 h3 h4, p => by
    have := PW.sound (len := len) h4 p
    simp only [formRun, h1, h2, wantsC]
    rw [if_neg h3]; exact this
theorem PW.sound {placed : Bool} {len : Nat} : ∀ {ws : List Wt} {l : List Tk} {nm rg : List UInt8} {kids : List PT} {r : List Tk}, PW placed ws l nm rg kids r → ∀ p, formRun placed len l (ws ++ p) = formRun placed len r p
  | _, _, _, _, _, _, .nil, p => rfl
  | _, _, _, _, _, _, .close h h1, p => by have := PW.sound (len := len) h1 p; simp only [List.cons_append, formRun, if_pos h]; exact this
  | _, _, _, _, _, _, .name h h1, p => by have := PW.sound (len := len) h1 p; simp only [List.cons_append, formRun, if_pos h]; exact this
  | _, _, _, _, _, _, .region h h1, p => by have := PW.sound (len := len) h1 p; simp only [List.cons_append, formRun, if_pos h]; exact this
  | _, _, _, _, _, _, .e (ws := ws) h h1, p => by have := PE.sound (len := len) h (ws ++ p); rw [List.cons_append, this]; exact PW.sound h1 p
end

mutual
theorem PE.len {placed : Bool} : ∀ {l : List Tk} {e : PT} {r : List Tk}, PE placed l e r → r.length < l.length
  | _, _, _, .num _ => by simp
  | _, _, _, .name _ => by simp
  | _, _, _, .node _ _ _ h4 => by have := PW.len h4; simp; omega
theorem PW.len {placed : Bool} : ∀ {ws : List Wt} {l : List Tk} {nm rg : List UInt8} {kids : List PT} {r : List Tk}, PW placed ws l nm rg kids r → r.length ≤ l.length
  | _, _, _, _, _, _, .nil => Nat.le_refl _
  | _, _, _, _, _, _, .close _ h1 => by have := PW.len h1; simp; omega
  | _, _, _, _, _, _, .name _ h1 => by have := PW.len h1; simp; omega
  | _, _, _, _, _, _, .region _ h1 => by have := PW.len h1; simp; omega
  | _, _, _, _, _, _, .e h h1 => by have := PE.len h; have := PW.len h1; omega
end

theorem wantsK_word (k : Kw) (placed : Bool) : Wt.word ∉ wantsK k placed := by cases k <;> cases placed <;> decide

theorem parse_total (placed : Bool) (len : Nat) : ∀ n : Nat,
    (∀ l : List Tk, l.length ≤ n → (∃ e r, PE placed l e r) ∨ (∃ q, ∀ p, formRun placed len l (.e :: p) = some q)) ∧
    (∀ ws : List Wt, Wt.word ∉ ws → ∀ l : List Tk, l.length ≤ n → (∃ nm rg kids r, PW placed ws l nm rg kids r) ∨ (∃ q, ∀ p, formRun placed len l (ws ++ p) = some q)) := by
  intro n
  induction n with
  | zero =>
    have hE : ∀ l : List Tk, l.length ≤ 0 → (∃ e r, PE placed l e r) ∨ (∃ q, ∀ p, formRun placed len l (.e :: p) = some q) := by
      intro l hl
      have : l = [] := List.length_eq_zero_iff.1 (by omega)
      subst this
      exact Or.inr ⟨len, fun p => rfl⟩
    refine ⟨hE, ?_⟩
    intro ws hw l hl
    have : l = [] := List.length_eq_zero_iff.1 (by omega)
    subst this
    cases ws with
    | nil => exact Or.inl ⟨_, _, _, _, .nil⟩
    | cons x ws => exact Or.inr ⟨len, fun p => rfl⟩
  | succ n ih =>
    have hE : ∀ l : List Tk, l.length ≤ n + 1 → (∃ e r, PE placed l e r) ∨ (∃ q, ∀ p, formRun placed len l (.e :: p) = some q) := by
      intro l hl
      cases l with
      | nil => exact Or.inr ⟨len, fun p => rfl⟩
      | cons t r =>
        cases hc : t.c with
        | num => exact Or.inl ⟨_, _, .num hc⟩
        | nam => exact Or.inl ⟨_, _, .name hc⟩
        | opn =>
          cases r with
          | nil => exact Or.inr ⟨len, fun p => by simp [formRun, hc]⟩
          | cons u r =>
            by_cases hw : wantsC u.c placed = []
            · exact Or.inr ⟨u.at_, fun p => by simp [formRun, hc, hw]⟩
            · cases hu : u.c with
              | kw k =>
                rw [hu] at hw
                simp only [List.length_cons] at hl
                rcases ih.2 (wantsK k placed) (wantsK_word k placed) r (by omega) with ⟨nm, rg, kids, r', h⟩ | ⟨q, h⟩
                · exact Or.inl ⟨_, _, .node hc hu hw h⟩
                · refine Or.inr ⟨q, fun p => ?_⟩
                  have := h p
                  simp only [formRun, hc, hu]
                  rw [if_neg hw]; exact this
              | _ => rw [hu] at hw; exact absurd rfl hw
        | _ => exact Or.inr ⟨t.at_, fun p => by simp [formRun, hc]⟩
    refine ⟨hE, ?_⟩
    intro ws
    induction ws with
    | nil => intro _ l _; exact Or.inl ⟨_, _, _, _, .nil⟩
    | cons x ws ihw =>
      intro hw l hl
      have hw' : Wt.word ∉ ws := fun h => hw (List.mem_cons_of_mem _ h)
      cases x with
      | word => exact absurd List.mem_cons_self hw
      | e =>
        rcases hE l hl with ⟨e, r, h⟩ | ⟨q, h⟩
        · rcases ihw hw' r (by have := h.len; omega) with ⟨nm, rg, kids, r', h'⟩ | ⟨q, h'⟩
          · exact Or.inl ⟨_, _, _, _, .e h h'⟩
          · exact Or.inr ⟨q, fun p => by rw [List.cons_append, h.sound]; exact h' p⟩
        · exact Or.inr ⟨q, fun p => h _⟩
      | close =>
        cases l with
        | nil => exact Or.inr ⟨len, fun p => rfl⟩
        | cons t r =>
          by_cases hc : t.c = .cls
          · rcases ihw hw' r (by simp at hl; omega) with ⟨nm, rg, kids, r', h'⟩ | ⟨q, h'⟩
            · exact Or.inl ⟨_, _, _, _, .close hc h'⟩
            · exact Or.inr ⟨q, fun p => by simp only [List.cons_append, formRun, if_pos hc]; exact h' p⟩
          · exact Or.inr ⟨t.at_, fun p => by simp only [List.cons_append, formRun, if_neg hc]⟩
      | name =>
        cases l with
        | nil => exact Or.inr ⟨len, fun p => rfl⟩
        | cons t r =>
          by_cases hc : t.c = .nam
          · rcases ihw hw' r (by simp at hl; omega) with ⟨nm, rg, kids, r', h'⟩ | ⟨q, h'⟩
            · exact Or.inl ⟨_, _, _, _, .name hc h'⟩
            · exact Or.inr ⟨q, fun p => by simp only [List.cons_append, formRun, if_pos hc]; exact h' p⟩
          · exact Or.inr ⟨t.at_, fun p => by simp only [List.cons_append, formRun, if_neg hc]⟩
      | region =>
        cases l with
        | nil => exact Or.inr ⟨len, fun p => rfl⟩
        | cons t r =>
          by_cases hc : t.c = .reg
          · rcases ihw hw' r (by simp at hl; omega) with ⟨nm, rg, kids, r', h'⟩ | ⟨q, h'⟩
            · exact Or.inl ⟨_, _, _, _, .region hc h'⟩
            · exact Or.inr ⟨q, fun p => by simp only [List.cons_append, formRun, if_pos hc]; exact h' p⟩
          · exact Or.inr ⟨t.at_, fun p => by simp only [List.cons_append, formRun, if_neg hc]⟩

/-- a text without fault in its form has a tree -/
theorem form_none {placed : Bool} {l : List UInt8} (h : formOf placed l = none) : ∃ e, PE placed (tokens l) e [] := by
  unfold formOf at h
  rcases (parse_total placed l.length (tokens l).length).1 (tokens l) (Nat.le_refl _) with ⟨e, r, hp⟩ | ⟨q, hq⟩
  · rw [hp.sound] at h
    cases r with
    | nil => exact ⟨e, hp⟩
    | cons t r => simp [formRun] at h
  · rw [hq] at h; cases h
end Go.Proofs.YtpicaknklgccoaaDoor

/- Plain mathematics: how the wants of a kept word part; what a tree uses of its tokens. -/
namespace Go.Proofs.YtpicaknklgccoaaDoor

def cntE (l : List Wt) : Nat := (l.filter (· = .e)).length

theorem wants_close {k : Kw} {placed : Bool} {done ws : List Wt} (h : wantsK k placed = done ++ .close :: ws) : ws = [] := by
  cases k <;> cases placed <;> simp only [wantsK] at h <;>
  rcases done with _ | ⟨a1, _ | ⟨a2, _ | ⟨a3, _ | ⟨a4, _ | ⟨a5, done⟩⟩⟩⟩⟩ <;> simp at h <;> simp_all

theorem wants_name {k : Kw} {placed : Bool} {done ws : List Wt} (h : wantsK k placed = done ++ .name :: ws) :
    ((k = .let_ ∧ cntE done = 0) ∨ (k = .loop ∧ cntE done = 1)) ∧ Wt.name ∉ done ∧ Wt.name ∉ ws := by
  cases k <;> cases placed <;> simp only [wantsK] at h <;>
  rcases done with _ | ⟨a1, _ | ⟨a2, _ | ⟨a3, _ | ⟨a4, _ | ⟨a5, done⟩⟩⟩⟩⟩ <;> simp at h <;> (try simp_all [cntE]) <;> (try obtain ⟨_, rfl⟩ := h) <;> (try subst_vars) <;> simp

theorem wants_region {k : Kw} {placed : Bool} {done ws : List Wt} (h : wantsK k placed = done ++ .region :: ws) : Wt.region ∉ done ∧ Wt.region ∉ ws := by
  cases k <;> cases placed <;> simp only [wantsK] at h <;>
  rcases done with _ | ⟨a1, _ | ⟨a2, _ | ⟨a3, _ | ⟨a4, _ | ⟨a5, done⟩⟩⟩⟩⟩ <;> simp at h <;> (try simp_all) <;> (try subst_vars) <;> simp

theorem wants_e {k : Kw} {placed : Bool} {done ws : List Wt} (h : wantsK k placed = done ++ .e :: ws) :
    Wt.name ∈ done ∨ (k ≠ .let_ ∧ (k = .loop → cntE done = 0)) := by
  cases k <;> cases placed <;> simp only [wantsK] at h <;>
  rcases done with _ | ⟨a1, _ | ⟨a2, _ | ⟨a3, _ | ⟨a4, _ | ⟨a5, done⟩⟩⟩⟩⟩ <;> simp at h <;> simp_all [cntE]

theorem wants_more {k : Kw} {placed : Bool} {done ws : List Wt} {x : Wt} (h : wantsK k placed = done ++ x :: ws) (hx : x ≠ .close) : ws ≠ [] := by
  cases k <;> cases placed <;> simp only [wantsK] at h <;>
  rcases done with _ | ⟨a1, _ | ⟨a2, _ | ⟨a3, _ | ⟨a4, _ | ⟨a5, done⟩⟩⟩⟩⟩ <;> simp at h <;> intro e <;> subst e <;> simp_all

/-- the wants met one by one; of each expression something is known -/
inductive PWx (Good : List Tk → PT → List Tk → Prop) : List Wt → List Tk → List UInt8 → List UInt8 → List PT → List Tk → Prop
  | nil {r : List Tk} : PWx Good [] r [] [] [] r
  | close {t : Tk} {ws : List Wt} {r r' : List Tk} {nm rg : List UInt8} {kids : List PT} : t.c = .cls → PWx Good ws r nm rg kids r' → PWx Good (.close :: ws) (t :: r) nm rg kids r'
  | name {t : Tk} {ws : List Wt} {r r' : List Tk} {nm rg : List UInt8} {kids : List PT} : t.c = .nam → PWx Good ws r nm rg kids r' → PWx Good (.name :: ws) (t :: r) t.s rg kids r'
  | region {t : Tk} {ws : List Wt} {r r' : List Tk} {nm rg : List UInt8} {kids : List PT} : t.c = .reg → PWx Good ws r nm rg kids r' → PWx Good (.region :: ws) (t :: r) nm t.s kids r'
  | e {e : PT} {ws : List Wt} {l r r' : List Tk} {nm rg : List UInt8} {kids : List PT} : Good l e r → PWx Good ws r nm rg kids r' → PWx Good (.e :: ws) l nm rg (e :: kids) r'

theorem PWx.noname {Good : List Tk → PT → List Tk → Prop} {ws : List Wt} {l : List Tk} {nm rg : List UInt8} {kids : List PT} {r : List Tk} (h : PWx Good ws l nm rg kids r) (hn : Wt.name ∉ ws) : nm = [] := by
  induction h with
  | nil => rfl
  | close _ _ ih => exact ih (fun h => hn (List.mem_cons_of_mem _ h))
  | name _ _ _ => exact absurd List.mem_cons_self hn
  | region _ _ ih => exact ih (fun h => hn (List.mem_cons_of_mem _ h))
  | e _ _ ih => exact ih (fun h => hn (List.mem_cons_of_mem _ h))
theorem PWx.noregion {Good : List Tk → PT → List Tk → Prop} {ws : List Wt} {l : List Tk} {nm rg : List UInt8} {kids : List PT} {r : List Tk} (h : PWx Good ws l nm rg kids r) (hn : Wt.region ∉ ws) : rg = [] := by
  induction h with
  | nil => rfl
  | close _ _ ih => exact ih (fun h => hn (List.mem_cons_of_mem _ h))
  | region _ _ _ => exact absurd List.mem_cons_self hn
  | name _ _ ih => exact ih (fun h => hn (List.mem_cons_of_mem _ h))
  | e _ _ ih => exact ih (fun h => hn (List.mem_cons_of_mem _ h))

mutual
theorem PE.used {placed : Bool} : ∀ {l : List Tk} {e : PT} {r : List Tk}, PE placed l e r → e.cnt + r.length ≤ l.length ∧ e.prs + r.length + 1 ≤ l.length
  | _, _, _, .num _ => by simp [PT.cnt, PT.prs]; omega
  | _, _, _, .name _ => by simp [PT.cnt, PT.prs]; omega
  | _, _, _, .node (k := k) _ _ _ h4 => by have := PW.used h4; simp [PT.cnt, PT.prs]; split <;> omega
theorem PW.used {placed : Bool} : ∀ {ws : List Wt} {l : List Tk} {nm rg : List UInt8} {kids : List PT} {r : List Tk}, PW placed ws l nm rg kids r → cntL kids + r.length ≤ l.length ∧ prsL kids + r.length ≤ l.length
  | _, _, _, _, _, _, .nil => by simp [cntL, prsL]
  | _, _, _, _, _, _, .close _ h1 => by have := PW.used h1; simp; omega
  | _, _, _, _, _, _, .name _ h1 => by have := PW.used h1; simp; omega
  | _, _, _, _, _, _, .region _ h1 => by have := PW.used h1; simp; omega
  | _, _, _, _, _, _, .e h h1 => by have := PE.used h; have := PW.used h1; simp only [cntL, prsL]; omega
end

theorem PE.suffix {placed : Bool} {l : List Tk} {e : PT} {r : List Tk} (h : PE placed l e r) : ∃ t r', l = t :: r' ∧ (t.c = .num ∨ t.c = .nam ∨ t.c = .opn) := by
  cases h with
  | num h => exact ⟨_, _, rfl, Or.inl h⟩
  | name h => exact ⟨_, _, rfl, Or.inr (Or.inl h)⟩
  | node h _ _ _ => exact ⟨_, _, rfl, Or.inr (Or.inr h)⟩

mutual
theorem PE.drop {placed : Bool} : ∀ {l : List Tk} {e : PT} {r : List Tk}, PE placed l e r → ∃ n, r = l.drop n ∧ n ≤ l.length
  | _, _, _, .num _ => ⟨1, by simp, by simp⟩
  | _, _, _, .name _ => ⟨1, by simp, by simp⟩
  | _, _, _, .node _ _ _ h4 => by obtain ⟨n, h, hn⟩ := PW.drop h4; exact ⟨n + 2, by simp [h], by simp; omega⟩
theorem PW.drop {placed : Bool} : ∀ {ws : List Wt} {l : List Tk} {nm rg : List UInt8} {kids : List PT} {r : List Tk}, PW placed ws l nm rg kids r → ∃ n, r = l.drop n ∧ n ≤ l.length
  | _, _, _, _, _, _, .nil => ⟨0, by simp, by simp⟩
  | _, _, _, _, _, _, .close _ h1 => by obtain ⟨n, h, hn⟩ := PW.drop h1; exact ⟨n + 1, by simp [h], by simp; omega⟩
  | _, _, _, _, _, _, .name _ h1 => by obtain ⟨n, h, hn⟩ := PW.drop h1; exact ⟨n + 1, by simp [h], by simp; omega⟩
  | _, _, _, _, _, _, .region _ h1 => by obtain ⟨n, h, hn⟩ := PW.drop h1; exact ⟨n + 1, by simp [h], by simp; omega⟩
  | _, _, _, _, _, _, .e h h1 => by
    obtain ⟨n, hr, hn⟩ := PE.drop h
    obtain ⟨m, hr', hm⟩ := PW.drop h1
    refine ⟨n + m, by rw [hr', hr, List.drop_drop], ?_⟩
    rw [hr] at hm; simp at hm; omega
end
end Go.Proofs.YtpicaknklgccoaaDoor

/- Plain mathematics: the program's way of reading a text (a row of nodes), and that it comes to the same tree, the same first fault. -/
namespace Go.Proofs.YtpicaknklgccoaaDoor

/-- a token as the program has it -/
structure TN where
  kind : Nat
  at_ : Nat
  beh : Nat
  word : List UInt8
  num : Int

def kindN : Cl → Nat
  | .bad => 1
  | .opn => 2
  | .cls => 3
  | .nam => 4
  | .num => 5
  | .reg => 6
  | .kw .let_ => 7
  | .kw .pair => 8
  | .kw .fst => 9
  | .kw .snd => 10
  | .kw .if_ => 11
  | .kw .add => 12
  | .kw .sub => 13
  | .kw .less => 14
  | .kw .loop => 15
  | .kw .new => 16

def wordN (t : Tk) : List UInt8 := match t.c with
  | .nam => t.s
  | .kw _ => t.s
  | _ => []
def numN (t : Tk) : Int := match t.c with
  | .num => valueL t.s
  | .reg => valueL t.s
  | _ => 0
def tnOf (t : Tk) : TN := ⟨kindN t.c, t.at_, t.at_ + t.s.length, wordN t, numN t⟩
/-- the tokens from a place on -/
def tksAt (s : List UInt8) (p : Nat) : List Tk := toks (s.length - p) p (s.drop p)
/-- the next token -/
def tk1 (len : Nat) (l : List Tk) : TN := match l with
  | [] => ⟨0, len, len, [], 0⟩
  | t :: _ => tnOf t

/-- a node -/
structure NR where
  form : Nat
  at_ : Nat
  beh : Nat
  num : Int
  word : List UInt8
  region : Int
  source : Int
  p0 : Int
  p1 : Int
  p2 : Int

/-- a reader -/
structure PS where
  l : List Tk
  fl : Option Nat
  scope : List (List UInt8 × Int)
  nodes : List NR
  opened : List Int

def PS.fail (at_ : Nat) (st : PS) : PS := match st.fl with
  | some _ => st
  | none => { st with fl := some at_, l := [] }
def PS.tail (st : PS) : PS := { st with l := st.l.tail }
def PS.expect (len kind : Nat) (st : PS) : PS := if (tk1 len st.l).kind ≠ kind then st.tail.fail (tk1 len st.l).at_ else st.tail
def PS.add (n : NR) (st : PS) : PS := { st with nodes := st.nodes ++ [n] }
def findS (scope : List (List UInt8 × Int)) (w : List UInt8) : Int := match scope.reverse.find? (fun x => x.1 == w) with
  | some x => x.2
  | none => -1
def formN : Nat → Nat
  | 7 => 3
  | 8 => 4
  | 9 => 5
  | 10 => 6
  | 11 => 7
  | 12 => 8
  | 13 => 9
  | 14 => 10
  | 15 => 11
  | 16 => 12
  | _ => 0

def pBody (pE : PS → Int × PS) (word : List UInt8) (src : Int) (st : PS) : Int × PS :=
  let x := pE { st with scope := st.scope ++ [(word, src)] }
  (x.1, { x.2 with scope := x.2.scope.dropLast })
def pLet (len : Nat) (pE : PS → Int × PS) (n : NR) (st : PS) : NR × PS :=
  let nm := tk1 len st.l
  let x := pE (st.expect len 4)
  let y := pBody pE nm.word x.1 x.2
  ({ n with word := nm.word, p0 := x.1, p1 := y.1, p2 := -1 }, y.2)
def pLoop (len : Nat) (pE : PS → Int × PS) (n : NR) (st : PS) : NR × PS :=
  let t := pE st
  let nm := tk1 len t.2.l
  let x := pE (t.2.expect len 4)
  let y := pBody pE nm.word x.1 x.2
  ({ n with word := nm.word, p0 := t.1, p1 := x.1, p2 := y.1 }, y.2)
def pRegion (len : Nat) (n : NR) (st : PS) : NR × PS := ({ n with region := (tk1 len st.l).num }, st.expect len 6)
def pRow1 (pE : PS → Int × PS) (n : NR) (st : PS) : NR × PS :=
  let x := pE st
  ({ n with p0 := x.1 }, x.2)
def pRow2 (pE : PS → Int × PS) (n : NR) (st : PS) : NR × PS :=
  let x := pRow1 pE n st
  let y := pE x.2
  ({ x.1 with p1 := y.1 }, y.2)
def pRow3 (pE : PS → Int × PS) (n : NR) (st : PS) : NR × PS :=
  let x := pRow2 pE n st
  let y := pE x.2
  ({ x.1 with p2 := y.1 }, y.2)
def pFill (placed : Bool) (len : Nat) (pE : PS → Int × PS) (n : NR) (st : PS) : NR × PS :=
  if n.form = 3 then pLet len pE n st
  else if n.form = 11 then pLoop len pE n st
  else if n.form = 4 then (if placed then pRow2 pE (pRegion len n st).1 (pRegion len n st).2 else pRow2 pE n st)
  else if n.form = 12 then pRow1 pE (pRegion len n st).1 (pRegion len n st).2
  else if n.form = 5 ∨ n.form = 6 then pRow1 pE n st
  else if n.form = 7 then pRow3 pE n st
  else pRow2 pE n st
def pBracket (placed : Bool) (len : Nat) (pE : PS → Int × PS) (n : NR) (st : PS) : Int × PS :=
  let w := tk1 len st.l
  let f := formN w.kind
  if f = 0 ∨ (f = 12 ∧ placed = false) then (-1, st.tail.fail w.at_)
  else
    let x := pFill placed len pE { n with form := f } st.tail
    let e := tk1 len x.2.l
    (((x.2.expect len 3).nodes.length : Int), (x.2.expect len 3).add { x.1 with beh := e.beh })
def nodeT (t : TN) : NR := ⟨0, t.at_, t.beh, 0, [], 0, -1, -1, -1, -1⟩
def pAny (len : Nat) (pB : NR → PS → Int × PS) (st : PS) : Int × PS :=
  let t := tk1 len st.l
  if t.kind = 5 then ((st.nodes.length : Int), st.tail.add { nodeT t with form := 1, num := t.num })
  else if t.kind = 4 then ((st.nodes.length : Int), st.tail.add { nodeT t with form := 2, word := t.word, source := findS st.scope t.word })
  else if t.kind = 2 then pB (nodeT t) st.tail
  else (-1, st.tail.fail t.at_)
def pSeat (f : PS → Int × PS) (st : PS) : Int × PS :=
  let x := f { st with opened := st.opened ++ [-1] }
  (x.1, { x.2 with opened := x.2.opened.set st.opened.length x.1 })
def pExpr (placed : Bool) (len : Nat) : Nat → PS → Int × PS
  | 0 => pSeat (pAny len fun _ st => (-1, st))
  | m + 1 => pSeat (pAny len (pBracket placed len (pExpr placed len m)))

theorem kindN_kw (k : Kw) : 7 ≤ kindN (.kw k) := by cases k <;> decide
theorem kindN_num (c : Cl) : kindN c = 5 ↔ c = .num := by
  cases c with
  | kw k => cases k <;> decide
  | _ => decide
theorem kindN_nam (c : Cl) : kindN c = 4 ↔ c = .nam := by
  cases c with
  | kw k => cases k <;> decide
  | _ => decide
theorem kindN_opn (c : Cl) : kindN c = 2 ↔ c = .opn := by
  cases c with
  | kw k => cases k <;> decide
  | _ => decide
theorem kindN_cls (c : Cl) : kindN c = 3 ↔ c = .cls := by
  cases c with
  | kw k => cases k <;> decide
  | _ => decide
theorem kindN_reg (c : Cl) : kindN c = 6 ↔ c = .reg := by
  cases c with
  | kw k => cases k <;> decide
  | _ => decide
theorem kindN_pos (c : Cl) : kindN c ≠ 0 := by
  cases c with
  | kw k => cases k <;> decide
  | _ => decide

/-- what a reader that has failed comes to -/
def PS.stuck (q : Nat) (st : PS) : Prop := st.fl = some q ∧ st.l = []

theorem stuck_fail {q a : Nat} {st : PS} (h : st.stuck q) : (st.fail a).stuck q := by
  obtain ⟨h1, h2⟩ := h
  unfold PS.fail; rw [h1]; exact ⟨h1, h2⟩
theorem stuck_tail {q : Nat} {st : PS} (h : st.stuck q) : st.tail.stuck q := ⟨h.1, by simp [PS.tail, h.2]⟩
theorem stuck_expect {q len k : Nat} {st : PS} (h : st.stuck q) : (st.expect len k).stuck q := by
  unfold PS.expect; split
  · exact stuck_fail (stuck_tail h)
  · exact stuck_tail h
theorem fail_stuck {a : Nat} {st : PS} (h : st.fl = none) : (st.fail a).stuck a := by
  unfold PS.fail; rw [h]; exact ⟨rfl, rfl⟩

/-- a way of reading that stays stuck -/
def Keeps (pE : PS → Int × PS) : Prop := ∀ (q : Nat) (st : PS), st.stuck q → (pE st).2.stuck q

theorem keeps_any (len : Nat) (pB : NR → PS → Int × PS) : Keeps (pAny len pB) := by
  intro q st h
  unfold pAny
  simp only [h.2, tk1]
  exact stuck_fail (stuck_tail h)
theorem keeps_seat {f : PS → Int × PS} (hf : Keeps f) : Keeps (pSeat f) := by
  intro q st h
  exact hf q { st with opened := st.opened ++ [-1] } h
theorem keeps_expr (placed : Bool) (len n : Nat) : Keeps (pExpr placed len n) := by
  cases n with
  | zero => exact keeps_seat (keeps_any _ _)
  | succ m => exact keeps_seat (keeps_any _ _)
theorem keeps_body {pE : PS → Int × PS} (h : Keeps pE) (w : List UInt8) (src : Int) {q : Nat} {st : PS} (hs : st.stuck q) : (pBody pE w src st).2.stuck q := h q { st with scope := st.scope ++ [(w, src)] } hs
theorem keeps_row1 {pE : PS → Int × PS} (h : Keeps pE) (n : NR) {q : Nat} {st : PS} (hs : st.stuck q) : (pRow1 pE n st).2.stuck q := h q st hs
theorem keeps_row2 {pE : PS → Int × PS} (h : Keeps pE) (n : NR) {q : Nat} {st : PS} (hs : st.stuck q) : (pRow2 pE n st).2.stuck q := h q _ (keeps_row1 h n hs)
theorem keeps_row3 {pE : PS → Int × PS} (h : Keeps pE) (n : NR) {q : Nat} {st : PS} (hs : st.stuck q) : (pRow3 pE n st).2.stuck q := h q _ (keeps_row2 h n hs)

/-! ### how many tokens are left -/
def Less (pE : PS → Int × PS) (m : Nat) : Prop := ∀ st : PS, st.l.length ≤ m → (pE st).2.l.length ≤ st.l.length
theorem fail_len (a : Nat) (st : PS) : (st.fail a).l.length ≤ st.l.length := by
  unfold PS.fail; split <;> simp
theorem tail_len (st : PS) : st.tail.l.length ≤ st.l.length := by simp [PS.tail]
theorem expect_len (len k : Nat) (st : PS) : (st.expect len k).l.length ≤ st.l.length := by
  unfold PS.expect; split
  · exact Nat.le_trans (fail_len _ _) (tail_len _)
  · exact tail_len _
theorem body_len {pE : PS → Int × PS} {m : Nat} (h : Less pE m) (w : List UInt8) (src : Int) (st : PS) (hl : st.l.length ≤ m) : (pBody pE w src st).2.l.length ≤ st.l.length := h { st with scope := st.scope ++ [(w, src)] } hl
theorem row1_len {pE : PS → Int × PS} {m : Nat} (h : Less pE m) (n : NR) (st : PS) (hl : st.l.length ≤ m) : (pRow1 pE n st).2.l.length ≤ st.l.length := h st hl
theorem row2_len {pE : PS → Int × PS} {m : Nat} (h : Less pE m) (n : NR) (st : PS) (hl : st.l.length ≤ m) : (pRow2 pE n st).2.l.length ≤ st.l.length := by
  have h1 := row1_len h n st hl
  exact Nat.le_trans (h _ (Nat.le_trans h1 hl)) h1
theorem row3_len {pE : PS → Int × PS} {m : Nat} (h : Less pE m) (n : NR) (st : PS) (hl : st.l.length ≤ m) : (pRow3 pE n st).2.l.length ≤ st.l.length := by
  have h1 := row2_len h n st hl
  exact Nat.le_trans (h _ (Nat.le_trans h1 hl)) h1
theorem let_len {pE : PS → Int × PS} {m : Nat} (h : Less pE m) (len : Nat) (n : NR) (st : PS) (hl : st.l.length ≤ m) : (pLet len pE n st).2.l.length ≤ st.l.length := by
  have h1 := expect_len len 4 st
  have h2 := h (st.expect len 4) (by omega)
  have h3 := body_len h (tk1 len st.l).word (pE (st.expect len 4)).1 (pE (st.expect len 4)).2 (by omega)
  unfold pLet; simp only; omega
theorem loop_len {pE : PS → Int × PS} {m : Nat} (h : Less pE m) (len : Nat) (n : NR) (st : PS) (hl : st.l.length ≤ m) : (pLoop len pE n st).2.l.length ≤ st.l.length := by
  have h0 := h st hl
  have h1 := expect_len len 4 (pE st).2
  have h2 := h ((pE st).2.expect len 4) (by omega)
  have h3 := body_len h (tk1 len (pE st).2.l).word (pE ((pE st).2.expect len 4)).1 (pE ((pE st).2.expect len 4)).2 (by omega)
  unfold pLoop; simp only; omega
theorem region_len (len : Nat) (n : NR) (st : PS) : (pRegion len n st).2.l.length ≤ st.l.length := expect_len _ _ _
theorem fill_len {pE : PS → Int × PS} {m : Nat} (h : Less pE m) (placed : Bool) (len : Nat) (n : NR) (st : PS) (hl : st.l.length ≤ m) : (pFill placed len pE n st).2.l.length ≤ st.l.length := by
  have hr := region_len len n st
  unfold pFill
  split
  · exact let_len h len n st hl
  split
  · exact loop_len h len n st hl
  split
  · split
    · exact Nat.le_trans (row2_len h _ _ (by omega)) hr
    · exact row2_len h n st hl
  split
  · exact Nat.le_trans (row1_len h _ _ (by omega)) hr
  split
  · exact row1_len h n st hl
  split
  · exact row3_len h n st hl
  · exact row2_len h n st hl
theorem bracket_len {pE : PS → Int × PS} {m : Nat} (h : Less pE m) (placed : Bool) (len : Nat) (n : NR) (st : PS) (hl : st.l.length ≤ m) : (pBracket placed len pE n st).2.l.length ≤ st.l.length := by
  have ht := tail_len st
  unfold pBracket
  simp only
  split
  · exact Nat.le_trans (fail_len _ _) ht
  · have h1 := fill_len h placed len { n with form := formN (tk1 len st.l).kind } st.tail (by omega)
    have h2 := expect_len len 3 (pFill placed len pE { n with form := formN (tk1 len st.l).kind } st.tail).2
    simp only [PS.add]; omega
theorem any_len {pB : NR → PS → Int × PS} (len : Nat) (st : PS) (h : ∀ n, (pB n st.tail).2.l.length ≤ st.tail.l.length) : (pAny len pB st).2.l.length ≤ st.l.length := by
  have ht := tail_len st
  unfold pAny
  simp only
  split
  · exact ht
  split
  · exact ht
  split
  · exact Nat.le_trans (h _) ht
  · exact Nat.le_trans (fail_len _ _) ht
theorem expr_len (placed : Bool) (len : Nat) : ∀ n : Nat, Less (pExpr placed len n) n := by
  intro n
  induction n with
  | zero =>
    intro st hl
    unfold pExpr pSeat
    exact any_len len { st with opened := st.opened ++ [-1] } (fun _ => Nat.le_refl _)
  | succ m ih =>
    intro st hl
    unfold pExpr pSeat
    refine any_len len { st with opened := st.opened ++ [-1] } (fun n => bracket_len ih placed len n _ ?_)
    simp [PS.tail]; omega
end Go.Proofs.YtpicaknklgccoaaDoor

namespace Go.Proofs.YtpicaknklgccoaaDoor
open Go.RowKit

/-- a byte of a text; outside of it 0 -/
def bA (s : ByteArray) (a : Nat) : UInt8 := if h : a < s.size then s[a] else 0
theorem bA_in (s : ByteArray) (a : Nat) (h : a < s.size) : bA s a = s[a] := by unfold bA; rw [dif_pos h]
theorem bA_out (s : ByteArray) (a : Nat) (h : s.size ≤ a) : bA s a = 0 := by unfold bA; rw [dif_neg (by omega)]

set_option maxHeartbeats 400000 in
theorem byteAt_any (s : ByteArray) (a : Nat) (w : World) (ha : a ≤ 10000) :
    Calls Tryd.prog 105 #[.string s, .int .i64 a] w fun e w' => e = .returned (.int .u8 ((bA s a).toNat : Int)) ∧ w' = w := by
  by_cases h : a < s.size
  · rw [bA_in s a h]
    go_enter Tryd.func105, Tryd.ntmps105
    go_wp2
    go_ret
    exact ⟨rfl, rfl⟩
  · rw [bA_out s a (by omega)]
    go_enter Tryd.func105, Tryd.ntmps105
    go_wp2
    go_ret
    exact ⟨rfl, rfl⟩

set_option maxHeartbeats 400000 in
theorem isLetter_any (c : UInt8) (w : World) :
    Calls Tryd.prog 106 #[.int .u8 (c.toNat : Int)] w fun e w' => e = .returned (.bool (inB 97 122 c)) ∧ w' = w := by
  have hc : c.toNat < 256 := c.toNat_lt
  unfold inB
  go_enter Tryd.func106, Tryd.ntmps106
  go_wp2
  all_goals go_ret
  · refine ⟨ret_bool ?_, rfl⟩
    have h1 : (97 : Int) ≤ (c.toNat : Int) := by assumption
    simp [h1]
  · refine ⟨ret_bool ?_, rfl⟩
    have h1 : ¬ (97 : Int) ≤ (c.toNat : Int) := by omega
    simp [h1]

set_option maxHeartbeats 400000 in
theorem isDigit_any (c : UInt8) (w : World) :
    Calls Tryd.prog 108 #[.int .u8 (c.toNat : Int)] w fun e w' => e = .returned (.bool (inB 48 57 c)) ∧ w' = w := by
  have hc : c.toNat < 256 := c.toNat_lt
  unfold inB
  go_enter Tryd.func108, Tryd.ntmps108
  go_wp2
  all_goals go_ret
  · refine ⟨ret_bool ?_, rfl⟩
    have h1 : (48 : Int) ≤ (c.toNat : Int) := by assumption
    simp [h1]
  · refine ⟨ret_bool ?_, rfl⟩
    have h1 : ¬ (48 : Int) ≤ (c.toNat : Int) := by omega
    simp [h1]

set_option maxHeartbeats 400000 in
theorem isBlank_any (c : UInt8) (w : World) :
    Calls Tryd.prog 117 #[.int .u8 (c.toNat : Int)] w fun e w' => e = .returned (.bool (blankB c)) ∧ w' = w := by
  have e1 : ((c.toNat : Int) == 32) = (c == 32) := byte_eq c 32
  have e2 : ((c.toNat : Int) == 10) = (c == 10) := byte_eq c 10
  unfold blankB
  rw [← e1, ← e2]
  clear e1 e2
  go_enter Tryd.func117, Tryd.ntmps117
  go_wp2
  all_goals go_ret
  all_goals
    refine ⟨ret_bool ?_, rfl⟩
    simp_all

/-- how many blanks stand at the head -/
def nbl : List UInt8 → Nat
  | [] => 0
  | c :: r => if blankB c then nbl r + 1 else 0
theorem nbl_le (l : List UInt8) : nbl l ≤ l.length := by
  induction l with
  | nil => simp [nbl]
  | cons c r ih => simp only [nbl]; split <;> simp <;> omega

set_option maxRecDepth 100000 in
set_option maxHeartbeats 1000000 in
theorem skipBlanks_any (s : ByteArray) (a : Nat) (w : World) (hs : s.size ≤ 9000) (ha : a ≤ s.size) :
    Calls Tryd.prog 104 #[.string s, .int .i64 a] w fun e w' => e = .returned (.int .i64 ((a + nbl (s.data.toList.drop a) : Nat) : Int)) ∧ w' = w := by
  have hby := fun k (h : k ≤ 10000) w => byteAt_any s k w h
  go_enter Tryd.func104, Tryd.ntmps104
  go_wp2
  go_loop [5] (fun i => ∃ k : Nat, k ≤ s.size ∧ i = .int .i64 k ∧ a + nbl (s.data.toList.drop a) = k + nbl (s.data.toList.drop k)) (fun i => s.size - (intOf i).toNat)
  case atStart => exact ⟨a, ha, rfl, rfl⟩
  case round =>
    obtain ⟨k, hk, rfl, hr⟩ := hrel
    have HR : Hid _ := hr
    clear hr
    by_cases hlt : k < s.size
    · by_cases hb : blankB s[k] = true
      · have hn : nbl (s.data.toList.drop k) = nbl (s.data.toList.drop (k + 1)) + 1 := by rw [drop_cons s k hlt]; simp [nbl, hb]
        have HN : Hid _ := hn
        have hbl := fun w => isBlank_any s[k] w
        rw [hb] at hbl
        have hbk := hby k (by omega)
        rw [bA_in s k hlt] at hbk
        clear hn hb
        go_wp2_with (first
          | (go_at_call 105; refine (hbk _).mono ?_; rintro e w' ⟨rfl, rfl⟩)
          | (go_at_call 117; refine (hbl _).mono ?_; rintro e w' ⟨rfl, rfl⟩))
        go_round
        case rel => exact ⟨k + 1, by omega, by go_num, by rw [HR.out, HN.out]; omega⟩
        case measure => simp [intOf]; omega
      · have hb0 : blankB s[k] = false := by simpa using hb
        have hn : nbl (s.data.toList.drop k) = 0 := by rw [drop_cons s k hlt]; simp [nbl, hb0]
        have HN : Hid _ := hn
        have hbl := fun w => isBlank_any s[k] w
        rw [hb0] at hbl
        have hbk := hby k (by omega)
        rw [bA_in s k hlt] at hbk
        clear hn hb hb0
        go_wp2_with (first
          | (go_at_call 105; refine (hbk _).mono ?_; rintro e w' ⟨rfl, rfl⟩)
          | (go_at_call 117; refine (hbl _).mono ?_; rintro e w' ⟨rfl, rfl⟩))
        go_ret
        exact ⟨ret_int (by have h1 := HR.out; have h2 := HN.out; omega), rfl⟩
    · have hn : nbl (s.data.toList.drop k) = 0 := by rw [drop_end s k (by omega)]; rfl
      have HN : Hid _ := hn
      clear hn
      go_wp2
      go_ret
      exact ⟨ret_int (by have h1 := HR.out; have h2 := HN.out; omega), rfl⟩

set_option maxRecDepth 100000 in
set_option maxHeartbeats 1000000 in
theorem valueOf_any (s : ByteArray) (a n b : Nat) (w : World) (hs : s.size ≤ 9000) (hab : b = a + n) (ha : b ≤ s.size) (hn : n ≤ 5) (hd : ∀ c ∈ (s.data.toList.drop a).take n, c ≠ 35) :
    Calls Tryd.prog 120 #[.string s, .int .i64 a, .int .i64 b] w fun e w' => e = .returned (.int .i64 (valueL ((s.data.toList.drop a).take n))) ∧ w' = w := by
  have hby := fun k (h : k ≤ 10000) w => byteAt_any s k w h
  have HD : Hid _ := hd
  clear hd
  go_enter Tryd.func120, Tryd.ntmps120
  go_wp2
  go_loop [7, 8] (fun v i => ∃ k j : Nat, k ≤ n ∧ j = a + k ∧ i = .int .i64 j ∧ v = .int .i64 (valueL ((s.data.toList.drop a).take k))) (fun _ i => b - (intOf i).toNat)
  case atStart => exact ⟨0, a, by omega, rfl, rfl, rfl⟩
  case round =>
    obtain ⟨k, j, hk, hj, rfl, rfl⟩ := hrel
    have hb := valueL_bd ((s.data.toList.drop a).take k)
    have hp := pow5 ((s.data.toList.drop a).take k).length (by simp; omega)
    obtain ⟨m, hm⟩ : ∃ m, m = valueL ((s.data.toList.drop a).take k) := ⟨_, rfl⟩
    rw [← hm] at hb
    obtain ⟨hb1, hb2⟩ : -3000000 ≤ m ∧ m ≤ 3000000 := by omega
    clear hp hb
    by_cases hlt : k < n
    · have hin : j < s.size := by omega
      have hsn : valueL ((s.data.toList.drop a).take (k + 1)) = 10 * m + (s[j].toNat : Int) - 48 := by
        have e : (s.data.toList.drop a).take (k + 1) = (s.data.toList.drop a).take k ++ [s[j]] := by
          subst hj; rw [List.take_succ_eq_append_getElem (by simp; omega), List.getElem_drop]; rfl
        have hne : s[j] ≠ 35 := by
          apply HD.out
          have : s[j] ∈ (s.data.toList.drop a).take (k + 1) := by rw [e]; simp
          rw [show (s.data.toList.drop a).take (k + 1) = ((s.data.toList.drop a).take n).take (k + 1) from by rw [List.take_take, Nat.min_eq_left (by omega)]] at this
          exact List.mem_of_mem_take this
        rw [e, valueL_snoc, if_neg hne, hm]
      have HS : Hid _ := hsn
      have hcb : s[j].toNat < 256 := s[j].toNat_lt
      have HC : Hid _ := hcb
      have hbk := hby j (by omega)
      rw [bA_in s j hin] at hbk
      clear hsn hcb
      rw [← hm]
      have HM : Hid _ := hm
      clear hm
      have HJ : Hid (j = a + k) := hj
      have hjb : j < b := by omega
      have HAB : Hid (b = a + n) := hab
      clear hj hab
      go_wp2_with fail
      refine (hbk _).mono ?_
      rintro e w' ⟨rfl, rfl⟩
      go_wp2
      go_round
      case rel =>
        have := HJ.out
        refine ⟨k + 1, j + 1, by omega, by omega, by go_num, ?_⟩
        rw [HS.out]
        have := HC.out
        rw [IntWalk.wrap64_in (s[j].toNat : Int) (by omega), IntWalk.wrap64_in (m * 10 + (s[j].toNat : Int)) (by omega), IntWalk.wrap64_in _ (by omega), Int.mul_comm m 10]
      case measure => simp [intOf]; omega
    · have hkn : k = n := by omega
      subst hkn
      go_wp2
      go_ret
      exact ⟨rfl, rfl⟩

set_option maxHeartbeats 400000 in
theorem cut_any (s : ByteArray) (a b : Nat) (w : World) (ha : a ≤ b) (hb : b ≤ s.size) :
    Calls Tryd.prog 118 #[.string s, .int .i64 a, .int .i64 b] w fun e w' => e = .returned (.string (s.extract a b)) ∧ w' = w := by
  go_enter Tryd.func118, Tryd.ntmps118
  go_wp2
  go_ret
  exact ⟨rfl, rfl⟩

theorem kw_key (s : ByteArray) (k : Kw) : (s.toList == k.bytes) = decide (kwOf s.data.toList = some k) := by
  rw [Lib.toList_data]
  by_cases h : kwOf s.data.toList = some k
  · rw [decide_eq_true h, kwOf_some h]; simp
  · rw [decide_eq_false h, beq_eq_false_iff_ne]
    intro e; rw [e, kwOf_bytes] at h; exact h rfl

set_option maxRecDepth 100000 in
set_option maxHeartbeats 1000000 in
theorem kindOf_any (s : ByteArray) (w : World) :
    Calls Tryd.prog 119 #[.string s] w fun e w' => e = .returned (.int .i64 ((kindN (wordCl s.data.toList 0) : Nat) : Int)) ∧ w' = w := by
  have f1 := kw_key s .let_
  have f2 := kw_key s .pair
  have f3 := kw_key s .fst
  have f4 := kw_key s .snd
  have f5 := kw_key s .if_
  have f6 := kw_key s .add
  have f7 := kw_key s .sub
  have f8 := kw_key s .less
  have f9 := kw_key s .loop
  have f10 := kw_key s .new
  simp only [Kw.bytes] at f1 f2 f3 f4 f5 f6 f7 f8 f9 f10
  unfold wordCl
  cases hk : kwOf s.data.toList with
  | none =>
    rw [hk] at f1 f2 f3 f4 f5 f6 f7 f8 f9 f10
    simp only [reduceCtorEq, decide_false] at f1 f2 f3 f4 f5 f6 f7 f8 f9 f10
    clear hk
    go_enter Tryd.func119, Tryd.ntmps119
    go_wp2
    go_ret
    exact ⟨rfl, rfl⟩
  | some k =>
    rw [hk] at f1 f2 f3 f4 f5 f6 f7 f8 f9 f10
    clear hk
    cases k
    all_goals
      simp only [Option.some.injEq, reduceCtorEq, decide_false, decide_true] at f1 f2 f3 f4 f5 f6 f7 f8 f9 f10
      go_enter Tryd.func119, Tryd.ntmps119
      go_wp2
      go_ret
      exact ⟨rfl, rfl⟩
end Go.Proofs.YtpicaknklgccoaaDoor
