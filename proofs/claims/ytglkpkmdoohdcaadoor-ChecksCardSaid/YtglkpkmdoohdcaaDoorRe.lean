import Derived.Test.YtglkpkmdoohdcaaDoorRd
namespace Go.Proofs.YtglkpkmdoohdcaaDoor
open Go.RowKit

def formInt (o : Option Nat) : Int := match o with
  | some p => p
  | none => -1

theorem cl_beq (c d : Cl) : ((bs c.bytes).toList == d.bytes) = decide (c = d) := by
  rw [bs_beq]
  rcases c with _ | _ | _ | _ | _ | _ | k <;> rcases d with _ | _ | _ | _ | _ | _ | k' <;> first | decide | (cases k <;> decide) | (cases k' <;> decide) | (cases k <;> cases k' <;> decide)

/-- what lies in the row of the tokens -/
theorem tk_cell (ts : List Tk) (k : Nat) (t : Tk) (h : ts[k]? = some t) (j : Nat) (hj : j < 3) : (ts.flatMap tkCells)[k * 3 + j]? = (tkCells t)[j]? := by
  induction ts generalizing k with
  | nil => simp at h
  | cons a r ih =>
    cases k with
    | zero =>
      simp at h; subst h
      rw [List.flatMap_cons, List.getElem?_append_left (by simp [tkCells]; omega)]; simp
    | succ k =>
      simp at h
      rw [List.flatMap_cons, List.getElem?_append_right (by simp [tkCells]; omega)]
      have : (k + 1) * 3 + j - (tkCells a).length = k * 3 + j := by simp [tkCells]; omega
      rw [this]; exact ih k h

theorem alloc_cell_at (w : World) (l : List Value) (e : TypeId) (j : Nat) : (w.alloc (.cells l.toArray e)).cell? (Addr.add ⟨w.heap.size, 0, none⟩ j) = l[j]? := by
  rcases j with _ | j <;> simp [Addr.add]

theorem wants_no (c : Cl) (placed : Bool) (w : World) (h : wantsC c placed = []) :
    Calls Tryd.prog 39 #[.string (bs c.bytes), .bool placed] w fun e w' => e = .returned (.slice none 0 0) ∧ w' = w := by
  refine (wants_any c placed w).mono ?_
  rintro e w' (⟨_, h1, h2⟩ | ⟨h0, _⟩)
  · exact ⟨h1, h2⟩
  · exact absurd h h0
theorem wants_yes (c : Cl) (placed : Bool) (w : World) (h : wantsC c placed ≠ []) :
    Calls Tryd.prog 39 #[.string (bs c.bytes), .bool placed] w fun e w' => e = .returned (.slice (some ⟨w.heap.size, 0, none⟩) (wantsC c placed).length (wantsC c placed).length) ∧ w' = w.alloc (.cells (((wantsC c placed).map wtVal).reverse).toArray 9) := by
  refine (wants_any c placed w).mono ?_
  rintro e w' (⟨h0, _⟩ | ⟨_, h1, h2⟩)
  · exact absurd h0 h
  · exact ⟨h1, h2⟩

theorem wtVal_len (p : List Wt) : ((p.map wtVal).reverse).length = p.length * 1 := by simp

set_option maxRecDepth 100000 in
set_option maxHeartbeats 4000000 in
theorem Form_any (s : ByteArray) (placed : Bool) (w : World) (hs : s.size ≤ 9000) :
    Calls Tryd.prog 22 #[.string s, .bool placed] w fun e w' => e = .returned (.int .i64 (formInt (formOf placed s.data.toList))) ∧ Below w.heap.size w w' := by
  obtain ⟨i0, hi, hz0, hz1, hz2⟩ := info_parts Tryd.infoStr
  have HI : Hid _ := hi
  have HZ0 : Hid _ := hz0
  have HZ1 : Hid _ := hz1
  have HZ2 : Hid _ := hz2
  clear hi hz0 hz1 hz2
  have htk := Tokens_any s
  unfold formOf
  rw [size_list]
  obtain ⟨ts, hts⟩ : ∃ ts, ts = tokens s.data.toList := ⟨_, rfl⟩
  have htl : ts.length ≤ s.size := by rw [hts]; have := toks_len s.data.toList.length 0 s.data.toList; rw [size_list] at this; unfold tokens; rw [size_list]; exact this
  rw [← hts] at htk ⊢
  clear hts
  go_enter Tryd.func22, Tryd.ntmps22
  go_wp2_with (first
    | (go_at_call 38; refine (htk _ hs).mono ?_; rintro e w1 ⟨tv, rfl, htown, htb⟩))
  have HTO : Hid (w1.ownsRow w.heap.size 95 3 tv ts.length (ts.flatMap tkCells)) := htown
  have HTB : Hid _ := htb
  have hw1 := htb.size
  clear htown htb htk
  obtain ⟨ta, tn, tc, htv, htn⟩ : ∃ ta tn tc, tv = .slice ta tn tc ∧ tn = ts.length := by
    rcases HTO.out.2 with ⟨h, h'⟩ | ⟨g, cap, cur, h, _⟩
    · exact ⟨_, _, _, h, h'.symm⟩
    · exact ⟨_, _, _, h, rfl⟩
  subst htn
  rw [htv]
  have HTV : Hid _ := htv
  clear htv
  go_loopw [6, 7] (fun v i wr => ∃ (k : Nat) (pile : List Wt) (g cap : Nat), k ≤ ts.length ∧ i = .int .i64 k ∧ v = .slice (some ⟨g, 0, none⟩) pile.length cap ∧
      wr.ownsRow w1.heap.size 9 1 (.slice (some ⟨g, 0, none⟩) pile.length cap) pile.length ((pile.map wtVal).reverse) ∧ Below w1.heap.size w1 wr ∧ pile.length ≤ 5 * k + 1 ∧
      formRun placed s.size ts [.e] = formRun placed s.size (ts.drop k) pile) (fun _ i _ => ts.length - (intOf i).toNat)
  case atStart =>
    refine ⟨0, [.e], w1.heap.size, 1, by omega, rfl, rfl, ?_, ?_, by simp, by simp⟩
    · refine ⟨rfl, Or.inr ⟨w1.heap.size, 1, #[wtVal .e], rfl, Nat.le_refl _, ?_, by simp, by decide, rfl, rfl⟩⟩
      show (w1.heap.push _)[w1.heap.size]? = _; simp [wtVal, Wt.bytes, bs]
    · exact (Below.refl _ _).alloc (Nat.le_refl _) _
  case round =>
    obtain ⟨k, pile, g, cap, hk, rfl, rfl, hown, hbel, hpl, hall⟩ := hrel
    have HA : Hid _ := hall
    have HO : Hid (wr.ownsRow w1.heap.size 9 1 (.slice (some ⟨g, 0, none⟩) pile.length cap) pile.length ((pile.map wtVal).reverse)) := hown
    have HB : Hid _ := hbel
    have hsz := hbel.size
    clear hall hown hbel
    by_cases hlt : k < ts.length
    · obtain ⟨t, ht⟩ : ∃ t, ts[k]? = some t := ⟨ts[k], List.getElem?_eq_getElem hlt⟩
      obtain ⟨gt, hgt⟩ : ∃ gt, ta = some ⟨gt, 0, none⟩ := by
        have h := HTO.out.2
        rw [HTV.out] at h
        rcases h with ⟨h, h'⟩ | ⟨g, cap, cur, h, _⟩
        · omega
        · simp only [Value.slice.injEq] at h; exact ⟨_, h.1⟩
      have hcw : ∀ j, j < 3 → w1.cell? ⟨gt, k * 3 + j, none⟩ = (tkCells t)[j]? := by
        intro j hj
        have h : w1.ownsRow w.heap.size 95 3 (.slice (some ⟨gt, 0, none⟩) ts.length tc) ts.length (ts.flatMap tkCells) := by rw [← hgt, ← HTV.out]; exact HTO.out
        rw [h.cellAt (k * 3 + j) (by omega)]
        exact tk_cell ts k t ht j hj
      have hgtw : gt < w1.heap.size := (HTO.out.lt gt (by rw [HTV.out, hgt]; rfl)).2
      subst hgt
      have hcl : ∀ j, j < 3 → wr.cell? ⟨gt, k * 3 + j, none⟩ = (tkCells t)[j]? := fun j hj => (HB.out.cell (p := ⟨gt, k * 3 + j, none⟩) hgtw).trans (hcw j hj)
      have hc1 : wr.cell? ⟨gt, k * 3 + 1, none⟩ = some (.int .i64 t.at_) := hcl 1 (by omega)
      have hc2 : wr.cell? ⟨gt, k * 3 + 2, none⟩ = some (.string (bs t.c.bytes)) := hcl 2 (by omega)
      have hd : ts.drop k = t :: ts.drop (k + 1) := by rw [List.drop_eq_getElem_cons hlt]; rw [List.getElem?_eq_getElem hlt] at ht; simp only [Option.some.injEq] at ht; rw [ht]
      have HD : Hid _ := hd
      clear hcl hcw ht hd
      cases pile with
      | nil => 
        simp only [List.length_nil] at *
        go_wp2
        go_ret
        exact ⟨ret_int (by rw [HA.out, HD.out]; simp [formRun, formInt]), (HTB.out.trans (HB.out.mono hw1))⟩
      | cons x p => 
        have hpc : wr.cell? ⟨g, p.length, none⟩ = some (wtVal x) := by
          rw [HO.out.cellAt p.length (by simp)]; simp
        have HO2 : Hid (wr.ownsRow w1.heap.size 9 1 (.slice (some ⟨g, 0, none⟩) p.length cap) p.length ((p.map wtVal).reverse)) := by
          refine ownsRow_pop (last := [wtVal x]) (by simp) ?_
          have := HO.out; simpa using this
        have hpcap : p.length + 1 ≤ cap := by
          rcases HO.out.2 with ⟨h, h'⟩ | ⟨g', cap', cur, h, _, _, h3, _⟩
          · simp at h'
          · simp only [Value.slice.injEq] at h; simp at h3; omega
        simp only [List.length_cons] at *
        cases x with
        | close =>
          simp only [wtVal, Wt.bytes] at hpc
          have q1 : ((bs [41]).toList == [101]) = false := by rw [bs_beq]; decide
          have q2 : ((bs [41]).toList == [119, 111, 114, 100]) = false := by rw [bs_beq]; decide
          have hq : ((bs t.c.bytes).toList == (bs [41]).toList) = decide (t.c = Cl.cls) := by
            have := cl_beq t.c Cl.cls
            rw [Lib.toList_data (bs [41])]; exact this
          by_cases hc : t.c = Cl.cls
          · rw [decide_eq_true hc] at hq
            have HC : Hid _ := hc
            clear hc
            go_wp2
            go_roundw
            case rel => exact ⟨k + 1, p, g, cap, by omega, by go_num, rfl, HO2.out, HB.out, by omega, by rw [HA.out, HD.out]; simp only [formRun]; rw [if_pos HC.out]⟩
            case measure => simp [intOf]; omega
          · rw [decide_eq_false hc] at hq
            have HC : Hid _ := hc
            clear hc
            go_wp2
            go_ret
            exact ⟨ret_int (by rw [HA.out, HD.out]; simp only [formRun]; rw [if_neg HC.out]; rfl), (HTB.out.trans (HB.out.mono hw1))⟩
        | name =>
          simp only [wtVal, Wt.bytes] at hpc
          have q1 : ((bs [78, 65, 77, 69]).toList == [101]) = false := by rw [bs_beq]; decide
          have q2 : ((bs [78, 65, 77, 69]).toList == [119, 111, 114, 100]) = false := by rw [bs_beq]; decide
          have hq : ((bs t.c.bytes).toList == (bs [78, 65, 77, 69]).toList) = decide (t.c = Cl.nam) := by
            have := cl_beq t.c Cl.nam
            rw [Lib.toList_data (bs [78, 65, 77, 69])]; exact this
          by_cases hc : t.c = Cl.nam
          · rw [decide_eq_true hc] at hq
            have HC : Hid _ := hc
            clear hc
            go_wp2
            go_roundw
            case rel => exact ⟨k + 1, p, g, cap, by omega, by go_num, rfl, HO2.out, HB.out, by omega, by rw [HA.out, HD.out]; simp only [formRun]; rw [if_pos HC.out]⟩
            case measure => simp [intOf]; omega
          · rw [decide_eq_false hc] at hq
            have HC : Hid _ := hc
            clear hc
            go_wp2
            go_ret
            exact ⟨ret_int (by rw [HA.out, HD.out]; simp only [formRun]; rw [if_neg HC.out]; rfl), (HTB.out.trans (HB.out.mono hw1))⟩
        | region =>
          simp only [wtVal, Wt.bytes] at hpc
          have q1 : ((bs [82, 69, 71, 73, 79, 78]).toList == [101]) = false := by rw [bs_beq]; decide
          have q2 : ((bs [82, 69, 71, 73, 79, 78]).toList == [119, 111, 114, 100]) = false := by rw [bs_beq]; decide
          have hq : ((bs t.c.bytes).toList == (bs [82, 69, 71, 73, 79, 78]).toList) = decide (t.c = Cl.reg) := by
            have := cl_beq t.c Cl.reg
            rw [Lib.toList_data (bs [82, 69, 71, 73, 79, 78])]; exact this
          by_cases hc : t.c = Cl.reg
          · rw [decide_eq_true hc] at hq
            have HC : Hid _ := hc
            clear hc
            go_wp2
            go_roundw
            case rel => exact ⟨k + 1, p, g, cap, by omega, by go_num, rfl, HO2.out, HB.out, by omega, by rw [HA.out, HD.out]; simp only [formRun]; rw [if_pos HC.out]⟩
            case measure => simp [intOf]; omega
          · rw [decide_eq_false hc] at hq
            have HC : Hid _ := hc
            clear hc
            go_wp2
            go_ret
            exact ⟨ret_int (by rw [HA.out, HD.out]; simp only [formRun]; rw [if_neg HC.out]; rfl), (HTB.out.trans (HB.out.mono hw1))⟩
        | e =>
          simp only [wtVal, Wt.bytes] at hpc
          have q1 : ((bs [101]).toList == [101]) = true := by rw [bs_beq]; decide
          have o1 : ((bs t.c.bytes).toList == [40]) = decide (t.c = .opn) := cl_beq t.c .opn
          have o2 : ((bs t.c.bytes).toList == [78, 85, 77, 66, 69, 82]) = decide (t.c = .num) := cl_beq t.c .num
          have o3 : ((bs t.c.bytes).toList == [78, 65, 77, 69]) = decide (t.c = .nam) := cl_beq t.c .nam
          by_cases h1 : t.c = .opn
          · rw [decide_eq_true h1] at o1
            have HC : Hid _ := h1
            clear h1 o2 o3
            go_wp2_with (at_builtin; refine wpList_append_own _ rfl (.tmp 57) (.tmp 58) 84 rfl w1.heap.size 9 i0 _ 1 16 Tryd.undStrs HI.out HZ0.out HZ1.out HZ2.out rfl (by decide) _ p.length ((p.map wtVal).reverse) rfl (HO2.out.alloc _) ⟨wr.heap.size, 0, none⟩ 1 1 [wtVal .word] rfl rfl ?d1 ?d2 ?d3 ?d4 ?d5 ?_)
            case d1 =>
              intro j u hj
              match j, hj with
              | 0, hj => simp at hj; subst hj; simp [Addr.add, wtVal, Wt.bytes, bs]
              | j + 1, hj => simp at hj
            case d2 => intro u hu; simp at hu; subst hu; rfl
            case d3 => unfold maxLen; omega
            case d4 => omega
            case d5 => simp; omega
            intro v' w2 hown' hgrow hnil
            have HB2 : Hid (Below w1.heap.size w1 w2) := (HB.out.alloc hsz _).grown hgrow (by simp; omega) (fun b hb => (World.ownsRow.lt HO2.out b hb).1)
            obtain ⟨g2, cap2, hv2⟩ : ∃ g2 cap2, v' = .slice (some ⟨g2, 0, none⟩) (p.length + 1) cap2 := by
              rcases hown'.2 with ⟨h, h'⟩ | ⟨g', cap', cur, h, _⟩
              · omega
              · exact ⟨_, _, h⟩
            rw [hv2] at hown' ⊢
            have HO3 : Hid (w2.ownsRow w1.heap.size 9 1 (.slice (some ⟨g2, 0, none⟩) (p.length + 1) cap2) (p.length + 1) ((p.map wtVal).reverse ++ [wtVal .word])) := hown'
            clear hown' hgrow hnil hv2
            go_wp2
            go_roundw
            case rel => exact ⟨k + 1, .word :: p, g2, cap2, by omega, by go_num, rfl, by have := HO3.out; simpa using this, HB2.out, by simp; omega, by rw [HA.out, HD.out]; simp only [formRun]; rw [HC.out]⟩
            case measure => simp [intOf]; omega
          · rw [decide_eq_false h1] at o1
            by_cases h2 : t.c = .num
            · rw [decide_eq_true h2] at o2
              have HC : Hid _ := h2
              clear h1 h2 o3
              go_wp2
              go_roundw
              case rel => exact ⟨k + 1, p, g, cap, by omega, by go_num, rfl, HO2.out, HB.out, by omega, by rw [HA.out, HD.out]; simp only [formRun]; rw [HC.out]⟩
              case measure => simp [intOf]; omega
            · rw [decide_eq_false h2] at o2
              by_cases h3 : t.c = .nam
              · rw [decide_eq_true h3] at o3
                have HC : Hid _ := h3
                clear h1 h2 h3
                go_wp2
                go_roundw
                case rel => exact ⟨k + 1, p, g, cap, by omega, by go_num, rfl, HO2.out, HB.out, by omega, by rw [HA.out, HD.out]; simp only [formRun]; rw [HC.out]⟩
                case measure => simp [intOf]; omega
              · rw [decide_eq_false h3] at o3
                have HC : Hid (t.c ≠ .opn ∧ t.c ≠ .num ∧ t.c ≠ .nam) := ⟨h1, h2, h3⟩
                clear h1 h2 h3
                go_wp2
                go_ret
                refine ⟨ret_int ?_, (HTB.out.trans (HB.out.mono hw1))⟩
                rw [HA.out, HD.out]
                have := HC.out
                simp only [formRun]
                split <;> simp_all [formInt]
        | word =>
          simp only [wtVal, Wt.bytes] at hpc
          have q1 : ((bs [119, 111, 114, 100]).toList == [101]) = false := by rw [bs_beq]; decide
          have q2 : ((bs [119, 111, 114, 100]).toList == [119, 111, 114, 100]) = true := by rw [bs_beq]; decide
          by_cases h1 : wantsC t.c placed = []
          · have hwn := fun w => wants_no t.c placed w h1
            have HC : Hid _ := h1
            clear h1
            go_wp2_with (go_at_call 39; refine (hwn _).mono ?_; rintro e w' ⟨rfl, rfl⟩)
            go_ret
            exact ⟨ret_int (by rw [HA.out, HD.out]; simp only [formRun]; rw [if_pos HC.out]; rfl), (HTB.out.trans (HB.out.mono hw1))⟩
          · have hwn := fun w => wants_yes t.c placed w h1
            have hl := wantsC_len t.c placed
            have HC : Hid _ := h1
            obtain ⟨more, hm⟩ : ∃ more, more = wantsC t.c placed := ⟨_, rfl⟩
            have hmp : 0 < more.length := by rw [hm]; exact List.length_pos_iff.2 h1
            rw [← hm] at hwn hl
            have HM : Hid _ := hm
            have hb0 : ((more.length : Int) == 0) = false := by rw [beq_eq_false_iff_ne]; omega
            clear h1 hm
            go_wp2_with (first
              | (go_at_call 39; refine (hwn _).mono ?_; rintro e w' ⟨rfl, rfl⟩)
              | (at_builtin; refine wpList_append_own _ rfl (.tmp 84) (.tmp 85) 84 rfl w1.heap.size 9 i0 _ 1 16 Tryd.undStrs HI.out HZ0.out HZ1.out HZ2.out rfl (by decide) _ p.length ((p.map wtVal).reverse) rfl (HO2.out.alloc _) ⟨wr.heap.size, 0, none⟩ more.length more.length ((more.map wtVal).reverse) rfl (by simp) ?d1 ?d2 ?d3 ?d4 ?d5 ?_))
            case d1 =>
              intro j u hj
              rw [← hj]
              exact alloc_cell_at _ _ _ _
            case d2 => intro u hu; simp at hu; obtain ⟨x, _, rfl⟩ := hu; rfl
            case d3 => unfold maxLen; omega
            case d4 => omega
            case d5 => simp; omega
            intro v' w2 hown' hgrow hnil
            have HB2 : Hid (Below w1.heap.size w1 w2) := (HB.out.alloc hsz _).grown hgrow (by simp; omega) (fun b hb => (World.ownsRow.lt HO2.out b hb).1)
            obtain ⟨g2, cap2, hv2⟩ : ∃ g2 cap2, v' = .slice (some ⟨g2, 0, none⟩) (p.length + more.length) cap2 := by
              rcases hown'.2 with ⟨h, h'⟩ | ⟨g', cap', cur, h, _⟩
              · omega
              · exact ⟨_, _, h⟩
            rw [hv2] at hown' ⊢
            have HO3 : Hid (w2.ownsRow w1.heap.size 9 1 (.slice (some ⟨g2, 0, none⟩) (p.length + more.length) cap2) (p.length + more.length) ((p.map wtVal).reverse ++ (more.map wtVal).reverse)) := hown'
            clear hown' hgrow hnil hv2
            go_wp2
            go_roundw
            case rel =>
              refine ⟨k + 1, more ++ p, g2, cap2, by omega, by go_num, by simp; omega, ?_, HB2.out, by simp; omega, by rw [HA.out, HD.out]; simp only [formRun]; rw [if_neg HC.out, ← HM.out]⟩
              have := HO3.out
              have e1 : (more ++ p).length = p.length + more.length := by simp; omega
              rw [e1]
              simpa using this
            case measure => simp [intOf]; omega
    · have hkk : k = ts.length := by omega
      have hd : ts.drop k = [] := by rw [hkk]; simp
      have HD : Hid _ := hd
      clear hd
      cases pile with
      | nil =>
        simp only [List.length_nil] at *
        go_wp2
        go_ret
        exact ⟨ret_int (by rw [HA.out, HD.out]; simp [formRun, formInt]), (HTB.out.trans (HB.out.mono hw1))⟩
      | cons x p =>
        simp only [List.length_cons] at *
        go_wp2
        go_ret
        exact ⟨ret_int (by rw [HA.out, HD.out]; simp [formRun, formInt]), (HTB.out.trans (HB.out.mono hw1))⟩
end Go.Proofs.YtglkpkmdoohdcaaDoor
