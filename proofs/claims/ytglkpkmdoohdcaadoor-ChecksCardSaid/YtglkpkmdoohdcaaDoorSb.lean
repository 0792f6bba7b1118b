import Derived.Test.YtglkpkmdoohdcaaDoorSa
namespace Go.Proofs.YtglkpkmdoohdcaaDoor
open Go.RowKit

theorem Tryd.infoInt : (Tryd.prog.info? 3).map (fun i => (i.zero, i.size, i.bytes)) = some (some (.int .i64 0), 1, 8) := by kernel_rfl
theorem Tryd.undInts : Tryd.prog.underlying 33 = some (.slice 3) := by kernel_rfl

set_option maxHeartbeats 400000 in
theorem Study_long (s : ByteArray) (w : World) (hs : 3000 < s.size) (hm : s.size ≤ maxLen) :
    Calls Tryd.prog 19 #[.string s, .bool false] w fun v w' => v = .returned (.tuple #[.pointer none, .pointer none, .int .i64 1, .int .i64 0]) ∧ Below w.heap.size w w' := by
  unfold maxLen at hm
  go_enter Tryd.func19, Tryd.ntmps19
  go_wp2
  refine bodyPost_ret (v := .tuple #[.pointer none, .pointer none, .int .i64 1, .int .i64 0]) (by simp [results, Tryd.results19, go_sem]) rfl ⟨rfl, Below.refl _ _⟩

set_option maxHeartbeats 400000 in
theorem Study_form (s : ByteArray) (w : World) (hs : s.size ≤ 3000) (q : Nat) (hq : formOf false s.data.toList = some q) :
    Calls Tryd.prog 19 #[.string s, .bool false] w fun v w' => v = .returned (.tuple #[.pointer none, .pointer none, .int .i64 2, .int .i64 q]) ∧ Below w.heap.size w w' := by
  have hf := fun w => Form_any s false w (by omega)
  rw [hq] at hf
  simp only [formInt] at hf
  go_enter Tryd.func19, Tryd.ntmps19
  go_wp2_with (go_at_call 22; refine (hf _).mono ?_; rintro e w1 ⟨rfl, hb1⟩)
  refine bodyPost_ret (v := .tuple #[.pointer none, .pointer none, .int .i64 2, .int .i64 q]) (by simp [results, Tryd.results19, go_sem]) rfl ⟨rfl, hb1⟩

theorem isRec_cells {w : World} {b : Nat} {r : Rec} (h : isRec w b r) : w.cell? ⟨b, 1, none⟩ = some (.int .i64 r.p) := by
  obtain ⟨kv, h⟩ := h
  rw [blk_cell h]; rfl

theorem prl_at (e : PT) (r : Rec) (j : Nat) (hr : r ∈ e.recs 0 0) (hp : r.isPair = true) (hs : r.site = j) : (e.prl[j]?).map (·.1) = some r.p := by
  obtain ⟨_, _, rg, h, _⟩ := (recs_pairs e 0 0).2.1 r hr hp
  rw [hs, Nat.sub_zero] at h
  rw [h]; rfl

theorem Study_len {s : ByteArray} {placed : Bool} {e : PT} (hp : PE placed (tokens s.data.toList) e []) : e.cnt ≤ s.size := by
  have h1 := hp.used.1
  have h2 := toks_len s.data.toList.length 0 s.data.toList
  rw [size_list] at h2
  unfold tokens at h1
  rw [size_list] at h1
  simp at h1
  omega

set_option maxRecDepth 100000 in
set_option maxHeartbeats 1000000 in
theorem Study_many (s : ByteArray) (w : World) (hs : s.size ≤ 3000) (e : PT) (hp : PE false (tokens s.data.toList) e []) (hn : formOf false s.data.toList = none) (hm : 100 < e.prs) :
    Calls Tryd.prog 19 #[.string s, .bool false] w fun v w' => ∃ q : Nat, v = .returned (.tuple #[.pointer none, .pointer none, .int .i64 3, .int .i64 q]) ∧ (e.prl[100]?).map (·.1) = some q ∧ Below w.heap.size w w' := by
  have hf := fun w => Form_any s false w (by omega)
  rw [hn] at hf
  simp only [formInt] at hf
  have hbu := fun w => Build_any s false e w (by omega) hp
  have hcnt := Study_len hp
  have hpa := fun b F w h => pairs_any e b F w (by omega) h
  have hpc := prs_cnt e
  unfold ptr at hbu hpa
  clear hp hn
  go_enter Tryd.func19, Tryd.ntmps19
  go_wp2_with (first
    | (go_at_call 22; refine (hf _).mono ?_; rintro _ w1 ⟨rfl, hb1⟩)
    | (go_at_call 23; refine (hbu _).mono ?_; rintro _ w2 ⟨b, rfl, hb2, hT2⟩))
  refine (hpa b _ w2 hT2).mono ?_
  rintro _ w3 ⟨g, cap, vs, rfl, hb3, ho3, hvs⟩
  obtain ⟨b', r, hv, hrec, hip, hsite, hmem⟩ := hvs 100 hm
  have hpr := prl_at e r 100 hmem hip hsite
  have hbw := blk_lt hrec.choose_spec
  have c1 : w3.cell? ⟨g, 100, none⟩ = some (.pointer (some ⟨b', 0, none⟩)) := by rw [ho3.cellAt 100 (by omega)]; exact hv
  have c2 : w3.cell? ⟨b', 1, none⟩ = some (.int .i64 r.p) := by rw [hb3.cell (p := ⟨b', 1, none⟩) hbw]; exact isRec_cells hrec
  have HB : Hid (Below w.heap.size w w3) := hb1.trans ((hb2.mono hb1.size).trans (hb3.mono (Nat.le_trans hb1.size hb2.size)))
  have HPR : Hid _ := hpr
  have hgw := World.block_lt_of_cell? _ _ c1
  clear hvs ho3 hv hrec hpr hmem hb1 hb2 hb3 hT2 hip hsite
  go_wp2
  go_quiet (fail)
  go_wp2
  refine bodyPost_ret (v := .tuple #[.pointer none, .pointer none, .int .i64 3, .int .i64 r.p]) (by simp [results, Tryd.results19, go_sem]) rfl ⟨r.p, rfl, HPR.out, HB.out.trans ⟨rfl, rfl, rfl, Nat.le_refl _, fun _ _ => rfl⟩⟩

theorem isT_drew {w : World} {n : Nat} {t : PT} {id site b : Nat} (h : IsT w (fun k => k < w.heap.size) t id site b) : IsT (w.drewN n) (fun k => k < (w.drewN n).heap.size) t id site b :=
  IsT.keep (w := w) (w' := w.drewN n) (F := fun k => k < w.heap.size) (F' := fun k => k < (w.drewN n).heap.size) (fun _ h => h) (fun _ _ => rfl) _ _ _ _ h

set_option maxRecDepth 100000 in
set_option maxHeartbeats 2000000 in
theorem Study_ok (s : ByteArray) (w : World) (hs : s.size ≤ 3000) (e : PT) (hp : PE false (tokens s.data.toList) e []) (hn : formOf false s.data.toList = none) (hm : e.prs ≤ 100) :
    Calls Tryd.prog 19 #[.string s, .bool false] w fun v w' => ∃ b yb : Nat, v = .returned (.tuple #[ptr b, ptr yb, .int .i64 (tyFind (List.range e.prs) e 0 0 [] (st0 e)).2.e, .int .i64 (tyFind (List.range e.prs) e 0 0 [] (st0 e)).2.at_]) ∧
      Below w.heap.size w w' ∧ IsT w' (fun k => k < w'.heap.size) e 0 0 b := by
  obtain ⟨i0, hi, hz0, hz1, hz2⟩ := info_parts Tryd.infoInt
  have HI : Hid _ := hi
  have HZ0 : Hid _ := hz0
  have HZ1 : Hid _ := hz1
  have HZ2 : Hid _ := hz2
  clear hi hz0 hz1 hz2
  have hf := fun w => Form_any s false w (by omega)
  rw [hn] at hf
  simp only [formInt] at hf
  have hbu := fun w => Build_any s false e w (by omega) hp
  have hcnt := Study_len hp
  have hpa := fun b F w h => pairs_any e b F w (by omega) h
  have hwf := hp.wf
  unfold ptr at hbu hpa
  have HWF : Hid _ := hwf
  clear hp hn hwf
  go_enter Tryd.func19, Tryd.ntmps19
  go_wp2_with (first
    | (go_at_call 22; refine (hf _).mono ?_; rintro _ w1 ⟨rfl, hb1⟩)
    | (go_at_call 23; refine (hbu _).mono ?_; rintro _ w2 ⟨b, rfl, hb2, hT2⟩))
  refine (hpa b _ w2 hT2).mono ?_
  rintro _ w3 ⟨g, cap, vs, rfl, hb3, ho3, hvs⟩
  have hT3 : IsT w3 (fun k => k < w3.heap.size) e 0 0 b := IsT.keep (fun k hk => Nat.lt_of_lt_of_le hk hb3.size) (fun k hk => hb3.block k hk) _ _ _ _ hT2
  have HT3 : Hid _ := hT3
  have HB : Hid (Below w.heap.size w w3) := hb1.trans ((hb2.mono hb1.size).trans (hb3.mono (Nat.le_trans hb1.size hb2.size)))
  have hw3 : w.heap.size ≤ w3.heap.size := HB.out.size
  obtain ⟨n, hnn⟩ : ∃ n, n = e.prs := ⟨_, rfl⟩
  rw [← hnn] at hm ⊢
  have HNN : Hid _ := hnn
  clear hvs ho3 hb1 hb2 hb3 hT2 hT3 hbu hpa hf hnn
  go_wp2
  go_loopw [12, 13] (fun v i wr => ∃ k : Nat, k ≤ n ∧ i = .int .i64 k ∧ wr.ownsRow w3.heap.size 3 1 v k ((List.range k).map fun (x : Nat) => Value.int .i64 x) ∧ Below w3.heap.size w3 wr) (fun _ i _ => n - (intOf i).toNat)
  case atStart => exact ⟨0, by omega, rfl, World.ownsRow_nil _ _ _ _, Below.refl _ _⟩
  case round =>
    obtain ⟨k, hk, rfl, hown, hbel⟩ := hrel
    have HOWN : Hid (wr.ownsRow w3.heap.size 3 1 _ k ((List.range k).map fun (x : Nat) => Value.int .i64 x)) := hown
    have hsz := hbel.size
    clear hown
    by_cases hlt : k < n
    · go_wp2_with (at_builtin; go_must (refine wpList_append_own _ rfl (.tmp 56) (.tmp 58) 33 rfl w3.heap.size 3 i0 _ 1 8 Tryd.undInts HI.out HZ0.out HZ1.out HZ2.out rfl (by decide) _ k ((List.range k).map fun (x : Nat) => Value.int .i64 x) rfl (HOWN.out.alloc _) ⟨wr.heap.size, 0, none⟩ 1 1 [.int .i64 k] rfl rfl ?c1 ?c2 ?c3 ?c4 ?c5 ?_))
      case c1 =>
        intro j u hj
        rw [← hj]
        exact alloc_cell_at _ _ _ _
      case c2 => intro u hu; simp at hu; subst hu; rfl
      case c3 => unfold maxLen; omega
      case c4 => first | omega | (simp; omega)
      case c5 => first | omega | (simp; omega)
      intro v' w4 hown' hgrow hnil
      have HB2 : Hid (Below w3.heap.size w3 w4) := (hbel.alloc hsz _).grown hgrow (by simp; omega) (fun b hb => (World.ownsRow.lt HOWN.out b hb).1)
      have HO3 : Hid _ := hown'
      clear hown' hgrow hnil
      go_wp2
      go_roundw
      case rel =>
        refine ⟨k + 1, by omega, by go_num, ?_, HB2.out⟩
        have := HO3.out
        rw [List.range_succ, List.map_append]
        exact this
      case measure => simp [intOf]; omega
    · have hkn : k = n := by omega
      have HKN : Hid _ := hkn
      have hcs := HOWN.out.2
      have hcl : (List.range n).length = n := List.length_range
      have hty := Types_any (w0 := w3) (cls := List.range n) (fun x hx => by rw [List.mem_range] at hx; omega) (by omega) e HWF.out b _ _ wr HT3.out (by omega) hbel (by have h := HOWN.out; rw [hkn] at h; rw [hcl]; exact h) (by rw [hcl, HNN.out]; exact Nat.le_refl _) (by
        rcases hcs with ⟨h, _⟩ | ⟨g', cap', cur, h, _⟩
        · exact ⟨_, _, _, h⟩
        · exact ⟨_, _, _, h⟩)
      unfold ptr at hty
      have HBEL : Hid _ := hbel
      clear hcs hkn hcl hbel
      go_wp2_with fail
      refine hty.mono ?_
      rintro _ w5 ⟨yb, nv, tv, ov, rfl, hsz5, hb5, hin5⟩
      have c4 : w5.cell? ⟨yb, 4, none⟩ = some (.int .i64 (tyFind (List.range n) e 0 0 [] (st0 e)).2.e) := by rw [blk_cell hin5.y]; rfl
      have c5 : w5.cell? ⟨yb, 5, none⟩ = some (.int .i64 (tyFind (List.range n) e 0 0 [] (st0 e)).2.at_) := by rw [blk_cell hin5.y]; rfl
      have HB5 : Hid (Below w.heap.size w w5) := HB.out.trans ((HBEL.out.mono hw3).trans (hb5.mono (by omega)))
      have HT5 : Hid (IsT w5 (fun k => k < w5.heap.size) e 0 0 b) := IsT.keep (fun k hk => by omega) (fun k hk => hin5.b0.block k hk) _ _ _ _ HT3.out
      clear hin5 hb5 hty
      obtain ⟨R, hR⟩ : ∃ R, R = (tyFind (List.range n) e 0 0 [] (st0 e)).2 := ⟨_, rfl⟩
      rw [← hR] at c4 c5
      have HRR : Hid (R = (tyFind (List.range e.prs) e 0 0 [] (st0 e)).2) := by rw [← HNN.out]; exact hR
      clear hR
      go_wp2
      go_quiet (fail)
      go_wp2
      refine bodyPost_ret (v := .tuple #[ptr b, ptr yb, .int .i64 R.e, .int .i64 R.at_]) (by simp [results, Tryd.results19, go_sem, ptr]) rfl ⟨b, yb, by rw [HRR.out], HB5.out.trans ⟨rfl, rfl, rfl, Nat.le_refl _, fun _ _ => rfl⟩, isT_drew HT5.out⟩

/-- what Check tells, by the tree -/
def chkAns (e : PT) : Nat × Nat :=
  if 100 < e.prs then (3, ((e.prl[100]?).map (·.1)).getD 0)
  else ((tyFind (List.range e.prs) e 0 0 [] (st0 e)).2.e, (tyFind (List.range e.prs) e 0 0 [] (st0 e)).2.at_)

set_option maxHeartbeats 400000 in
theorem Check_long (s : ByteArray) (w : World) (hs : 3000 < s.size) (hm : s.size ≤ maxLen) :
    Calls Tryd.prog 7 #[.string s] w fun v w' => v = .returned (.tuple #[.int .i64 1, .int .i64 0]) ∧ Below w.heap.size w w' := by
  have hst := fun w => Study_long s w hs hm
  go_enter Tryd.func7, Tryd.ntmps7
  go_wp2_with (go_at_call 19; refine (hst _).mono ?_; rintro e w1 ⟨rfl, hb1⟩)
  refine bodyPost_ret (v := .tuple #[.int .i64 1, .int .i64 0]) (by simp [results, Tryd.results7, go_sem]) rfl ⟨rfl, hb1⟩

set_option maxHeartbeats 400000 in
theorem Check_form (s : ByteArray) (w : World) (hs : s.size ≤ 3000) (q : Nat) (hq : formOf false s.data.toList = some q) :
    Calls Tryd.prog 7 #[.string s] w fun v w' => v = .returned (.tuple #[.int .i64 2, .int .i64 q]) ∧ Below w.heap.size w w' := by
  have hst := fun w => Study_form s w hs q hq
  go_enter Tryd.func7, Tryd.ntmps7
  go_wp2_with (go_at_call 19; refine (hst _).mono ?_; rintro e w1 ⟨rfl, hb1⟩)
  refine bodyPost_ret (v := .tuple #[.int .i64 2, .int .i64 q]) (by simp [results, Tryd.results7, go_sem]) rfl ⟨rfl, hb1⟩

set_option maxHeartbeats 400000 in
theorem Check_tree (s : ByteArray) (w : World) (hs : s.size ≤ 3000) (e : PT) (hp : PE false (tokens s.data.toList) e []) (hn : formOf false s.data.toList = none) :
    Calls Tryd.prog 7 #[.string s] w fun v w' => v = .returned (.tuple #[.int .i64 (chkAns e).1, .int .i64 (chkAns e).2]) ∧ Below w.heap.size w w' := by
  by_cases hm : 100 < e.prs
  · have hst := fun w => Study_many s w hs e hp hn hm
    have HC : Hid (chkAns e = (3, ((e.prl[100]?).map (·.1)).getD 0)) := by unfold chkAns; rw [if_pos hm]; exact rfl
    go_enter Tryd.func7, Tryd.ntmps7
    go_wp2_with (go_at_call 19; refine (hst _).mono ?_; rintro e w1 ⟨q, rfl, hq, hb1⟩)
    refine bodyPost_ret (v := .tuple #[.int .i64 3, .int .i64 q]) (by simp [results, Tryd.results7, go_sem]) rfl ⟨?_, hb1⟩
    rw [HC.out, hq]; rfl
  · have hst := fun w => Study_ok s w hs e hp hn (by omega)
    have HC : Hid (chkAns e = ((tyFind (List.range e.prs) e 0 0 [] (st0 e)).2.e, (tyFind (List.range e.prs) e 0 0 [] (st0 e)).2.at_)) := by unfold chkAns; rw [if_neg hm]; exact rfl
    generalize (tyFind (List.range e.prs) e 0 0 [] (st0 e)).2 = R at hst HC
    unfold ptr at hst
    go_enter Tryd.func7, Tryd.ntmps7
    go_wp2_with (go_at_call 19; refine (hst _).mono ?_; rintro e w1 ⟨b, yb, rfl, hb1, _⟩)
    refine bodyPost_ret (v := .tuple #[.int .i64 R.e, .int .i64 R.at_]) (by simp [results, Tryd.results7, go_sem]) rfl ⟨?_, hb1⟩
    rw [HC.out]
end Go.Proofs.YtglkpkmdoohdcaaDoor
