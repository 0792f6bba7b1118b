import Derived.Test.YtpicaknklgccoaaGreatDoorP26
import Derived.Test.YtpicaknklgccoaaGreatDoorP24
import Derived.Lib.AppendStr
namespace Go.Proofs.YtpicaknklgccoaaGreatDoor
open Go.RowKit
mutual
theorem PE.good {placed : Bool} {ts : List Tk} (hok : TokOk ts) (hkw : ∀ t ∈ ts, ∀ k, t.c = .kw k → t.s = k.bytes) (hl : ts.length ≤ 9000) : ∀ {l : List Tk} {e : PT} {r : List Tk}, PE placed l e r → GoodE ts l e r
 | _, _, _, .num (t := t) (r := r) h => by
  refine ⟨(PE.used (.num (placed := placed) h)).1, (PE.used (.num (placed := placed) h)).2, ⟨t, r, rfl, Or.inl h⟩, ⟨1, rfl, by simp⟩, ?_⟩
  intro gt tc cb p ids sites w hd hi hs hin
  obtain ⟨h1, h2, _⟩ := drop_at hd
  have e : (t :: r).length - r.length = 1 := by simp
  rw [e]
  exact build_num ts hok hl gt tc cb p ids sites t w hin h1 h2 (by omega) h
 | _, _, _, .name (t := t) (r := r) h => by
  refine ⟨(PE.used (.name (placed := placed) h)).1, (PE.used (.name (placed := placed) h)).2, ⟨t, r, rfl, Or.inr (Or.inl h)⟩, ⟨1, rfl, by simp⟩, ?_⟩
  intro gt tc cb p ids sites w hd hi hs hin
  obtain ⟨h1, h2, _⟩ := drop_at hd
  have e : (t :: r).length - r.length = 1 := by simp
  rw [e]
  exact build_name ts hl gt tc cb p ids sites t w hin h1 h2 (by omega) h
 | _, _, _, .node (t := t) (u := u) (k := k) (r := r0) (r' := r') (nm := nm) (rg := rg) (kids := kids) h1 h2 h3 h4 => by
  have hp := PW.good hok hkw hl h4
  have hpe : PE placed (t :: u :: r0) (.node t.at_ k nm rg kids) r' := .node h1 h2 h3 h4
  refine ⟨hpe.used.1, hpe.used.2, ⟨t, _, rfl, Or.inr (Or.inr h1)⟩, hpe.drop, ?_⟩
  intro gt tc cb p ids sites w hd hi hs hin
  obtain ⟨a1, a2, a3⟩ := drop_at hd
  obtain ⟨b1, b2, b3⟩ := drop_at a3.symm
  have hn := build_node ts hok hl placed gt tc cb p ids sites t u k w hin a1 b1 b2 hi hs h3 h1 (hkw u (List.mem_of_getElem? b1) k h2) nm rg kids r' (by rw [← b3]; exact hp)
  rw [hd] at hn
  exact hn
theorem PW.good {placed : Bool} {ts : List Tk} (hok : TokOk ts) (hkw : ∀ t ∈ ts, ∀ k, t.c = .kw k → t.s = k.bytes) (hl : ts.length ≤ 9000) : ∀ {ws : List Wt} {l : List Tk} {nm rg : List UInt8} {kids : List PT} {r : List Tk}, PW placed ws l nm rg kids r → PWx (GoodE ts) ws l nm rg kids r
 | _, _, _, _, _, _, .nil => .nil
 | _, _, _, _, _, _, .close h h1 => .close h (PW.good hok hkw hl h1)
 | _, _, _, _, _, _, .name h h1 => .name h (PW.good hok hkw hl h1)
 | _, _, _, _, _, _, .region h h1 => .region h (PW.good hok hkw hl h1)
 | _, _, _, _, _, _, .e h h1 => .e (PE.good hok hkw hl h) (PW.good hok hkw hl h1)
end
theorem tokens_ok (l : List UInt8) : TokOk (tokens l) := ⟨fun _ h hc => toks_num h hc, fun _ h hc => toks_reg h hc, fun _ h _ => toks_ne h⟩
theorem tokens_kw (l : List UInt8) : ∀ t ∈ tokens l, ∀ k, t.c = .kw k → t.s = k.bytes := fun _ h _ hc => toks_kw h hc
mutual
theorem PE.wf {placed : Bool} : ∀ {l : List Tk} {e : PT} {r : List Tk}, PE placed l e r → e.wf
 | _, _, _, .num _ => by simp [PT.wf]
 | _, _, _, .name _ => by simp [PT.wf]
 | _, _, _, .node (k := k) _ _ h3 h4 => by
  simp only [PT.wf]
  refine ⟨?_, PW.wfl h4⟩
  rw [PW.kids_len h4]
  cases k <;> cases placed <;> first | decide | exact absurd rfl h3
theorem PW.wfl {placed : Bool} : ∀ {ws : List Wt} {l : List Tk} {nm rg : List UInt8} {kids : List PT} {r : List Tk}, PW placed ws l nm rg kids r → wfL kids
 | _, _, _, _, _, _, .nil => by simp [wfL]
 | _, _, _, _, _, _, .close _ h1 => PW.wfl h1
 | _, _, _, _, _, _, .name _ h1 => PW.wfl h1
 | _, _, _, _, _, _, .region _ h1 => PW.wfl h1
 | _, _, _, _, _, _, .e h h1 => by simp only [wfL]; exact ⟨PE.wf h, PW.wfl h1⟩
end
set_option maxRecDepth 100000 in
set_option maxHeartbeats 1000000 in
theorem Build_any (s : ByteArray) (placed : Bool) (e : PT) (w : World) (hs : s.size ≤ 9000) (hp : PE placed (tokens s.data.toList) e []) :
  Calls Tryz.prog 61 #[.string s] w fun v w' => ∃ b, v = .returned (ptr b) ∧ Below w.heap.size w w' ∧ IsT w' (fun k => k < w'.heap.size) e 0 0 b := by
 have htl : (tokens s.data.toList).length ≤ 9000 := by
  have := toks_len s.data.toList.length 0 s.data.toList
  rw [size_list] at this
  unfold tokens; rw [size_list]; omega
 have hg := (PE.good (tokens_ok _) (tokens_kw _) htl hp).2.2.2.2
 have htk := Tokens_any s
 obtain ⟨ts, hts⟩ : ∃ ts, ts = tokens s.data.toList := ⟨_, rfl⟩
 rw [← hts] at hg htk
 have hne : 0 < ts.length := by
  obtain ⟨t, r', h, _⟩ := hp.suffix
  rw [hts, h]; simp
 clear hts hp htl
 go_enter Tryz.func61, Tryz.ntmps61
 go_wp2_with fail
 refine (htk _ hs).mono ?_
 rintro e' w1 ⟨tv, rfl, htown, htb⟩
 obtain ⟨gt, tc, htv⟩ : ∃ gt tc, tv = .slice (some ⟨gt, 0, none⟩) ts.length tc := by
  rcases htown.2 with ⟨_, h⟩ | ⟨g, cap, cur, h, _⟩
  ·omega
  ·exact ⟨_, _, h⟩
 subst htv
 have hgt := htown.lt gt rfl
 have hin : BIn ts gt tc w1.heap.size 0 0 0 (w1.alloc (.cells (cntCells (.slice (some ⟨gt, 0, none⟩) ts.length tc) 0 0 0) 181)) :=
  ⟨by omega, blk_new _ _, (owns_base htown (fun _ _ => Nat.zero_le _)).alloc _⟩
 have hca := hg gt tc w1.heap.size 0 0 0 _ (by simp) (Nat.le_refl _) (Nat.le_refl _) hin
 have HTB : Hid (Below w.heap.size w w1) := htb
 have hw1 := htb.size
 unfold ptr at hca
 clear htown hin htb hg htk
 go_wp2_with fail
 refine hca.mono ?_
 rintro e' w2 ⟨b, rfl, hc2, hg2, hT2⟩
 unfold ptr
 go_wp2
 go_ret
 have hsz := hg2.size
 refine ⟨b, rfl, ?_, ?_⟩
 ·refine HTB.out.trans ⟨hg2.os, hg2.tape, hg2.output, by simp at hsz; omega, fun k hk => ?_⟩
  rw [hg2.block k (by simp; omega) (fun e => by cases e; omega), Below.heap_alloc _ _ _ (by omega)]
 ·exact IsT.keep (fun k hk => hk.2) (fun _ _ => rfl) _ _ _ _ hT2
set_option maxHeartbeats 400000 in
theorem Study_long (s : ByteArray) (w : World) (hs : 3000 < s.size) (hm : s.size ≤ maxLen) :
  Calls Tryz.prog 33 #[.string s, .bool false] w fun v w' => v = .returned (.tuple #[.pointer none, .pointer none, .int .i64 1, .int .i64 0]) ∧ Below w.heap.size w w' := by
 unfold maxLen at hm
 go_enter Tryz.func33, Tryz.ntmps33
 go_wp2
 refine bodyPost_ret (v := .tuple #[.pointer none, .pointer none, .int .i64 1, .int .i64 0]) (by simp [results, Tryz.results33, go_sem]) rfl ⟨rfl, Below.refl _ _⟩
set_option maxHeartbeats 400000 in
theorem Study_form (s : ByteArray) (w : World) (hs : s.size ≤ 3000) (q : Nat) (hq : formOf false s.data.toList = some q) :
  Calls Tryz.prog 33 #[.string s, .bool false] w fun v w' => v = .returned (.tuple #[.pointer none, .pointer none, .int .i64 2, .int .i64 q]) ∧ Below w.heap.size w w' := by
 have hf := fun w => Form_any s false w (by omega)
 rw [hq] at hf
 simp only [formInt] at hf
 go_enter Tryz.func33, Tryz.ntmps33
 go_wp2_with (go_at_call 60; refine (hf _).mono ?_; rintro e w1 ⟨rfl, hb1⟩)
 refine bodyPost_ret (v := .tuple #[.pointer none, .pointer none, .int .i64 2, .int .i64 q]) (by simp [results, Tryz.results33, go_sem]) rfl ⟨rfl, hb1⟩
theorem isRec_cells {w : World} {b : Nat} {r : Rec} (h : isRec w b r) : w.cell? ⟨b, 1, none⟩ = some (.int .i64 r.p) := by
 obtain ⟨kv, h⟩ := h
 rw [blk_cell h]; rfl
theorem prl_at (e : PT) (r : Rec) (j : Nat) (hr : r ∈ e.recs 0 0) (hp : r.isPair = true) (hs : r.site = j) : (e.prl[j]?).map (·.1) = some r.p := by
 obtain ⟨_, _, rg, h, _⟩ := (recs_pairs e 0 0).2.1 r hr hp
 rw [hs, Nat.sub_zero] at h
 rw [h]; rfl
theorem Study_len {s : ByteArray} {placed : Bool} {e : PT} (hp : PE placed (tokens s.data.toList) e []) : e.cnt ≤ s.size := by
 have h1 := hp.used.1
 have h2 := toks_len s.data.toList.length 0 s.data.toList
 rw [size_list] at h2
 unfold tokens at h1
 rw [size_list] at h1
 simp at h1
 omega
set_option maxRecDepth 100000 in
set_option maxHeartbeats 1000000 in
theorem Study_many (s : ByteArray) (w : World) (hs : s.size ≤ 3000) (e : PT) (hp : PE false (tokens s.data.toList) e []) (hn : formOf false s.data.toList = none) (hm : 100 < e.prs) :
  Calls Tryz.prog 33 #[.string s, .bool false] w fun v w' => ∃ q : Nat, v = .returned (.tuple #[.pointer none, .pointer none, .int .i64 3, .int .i64 q]) ∧ (e.prl[100]?).map (·.1) = some q ∧ Below w.heap.size w w' := by
 have hf := fun w => Form_any s false w (by omega)
 rw [hn] at hf
 simp only [formInt] at hf
 have hbu := fun w => Build_any s false e w (by omega) hp
 have hcnt := Study_len hp
 have hpa := fun b F w h => pairs_any e b F w (by omega) h
 have hpc := prs_cnt e
 unfold ptr at hbu hpa
 clear hp hn
 go_enter Tryz.func33, Tryz.ntmps33
 go_wp2_with (first
  | (go_at_call 60; refine (hf _).mono ?_; rintro _ w1 ⟨rfl, hb1⟩)
  | (go_at_call 61; refine (hbu _).mono ?_; rintro _ w2 ⟨b, rfl, hb2, hT2⟩))
 refine (hpa b _ w2 hT2).mono ?_
 rintro _ w3 ⟨g, cap, vs, rfl, hb3, ho3, hvs⟩
 obtain ⟨b', r, hv, hrec, hip, hsite, hmem⟩ := hvs 100 hm
 have hpr := prl_at e r 100 hmem hip hsite
 have hbw := blk_lt hrec.choose_spec
 have c1 : w3.cell? ⟨g, 100, none⟩ = some (.pointer (some ⟨b', 0, none⟩)) := by rw [ho3.cellAt 100 (by omega)]; exact hv
 have c2 : w3.cell? ⟨b', 1, none⟩ = some (.int .i64 r.p) := by rw [hb3.cell (p := ⟨b', 1, none⟩) hbw]; exact isRec_cells hrec
 have HB : Hid (Below w.heap.size w w3) := hb1.trans ((hb2.mono hb1.size).trans (hb3.mono (Nat.le_trans hb1.size hb2.size)))
 have HPR : Hid _ := hpr
 have hgw := World.block_lt_of_cell? _ _ c1
 clear hvs ho3 hv hrec hpr hmem hb1 hb2 hb3 hT2 hip hsite
 go_wp2
 go_quiet (fail)
 go_wp2
 refine bodyPost_ret (v := .tuple #[.pointer none, .pointer none, .int .i64 3, .int .i64 r.p]) (by simp [results, Tryz.results33, go_sem]) rfl ⟨r.p, rfl, HPR.out, HB.out.trans ⟨rfl, rfl, rfl, Nat.le_refl _, fun _ _ => rfl⟩⟩
theorem isT_drew {w : World} {n : Nat} {t : PT} {id site b : Nat} (h : IsT w (fun k => k < w.heap.size) t id site b) : IsT (w.drewN n) (fun k => k < (w.drewN n).heap.size) t id site b :=
 IsT.keep (w := w) (w' := w.drewN n) (F := fun k => k < w.heap.size) (F' := fun k => k < (w.drewN n).heap.size) (fun _ h => h) (fun _ _ => rfl) _ _ _ _ h
set_option maxRecDepth 100000 in
set_option maxHeartbeats 2000000 in
theorem Study_ok (s : ByteArray) (w : World) (hs : s.size ≤ 3000) (e : PT) (hp : PE false (tokens s.data.toList) e []) (hn : formOf false s.data.toList = none) (hm : e.prs ≤ 100) :
  Calls Tryz.prog 33 #[.string s, .bool false] w fun v w' => ∃ b yb : Nat, v = .returned (.tuple #[ptr b, ptr yb, .int .i64 (tyFind (List.range e.prs) e 0 0 [] (st0 e)).2.e, .int .i64 (tyFind (List.range e.prs) e 0 0 [] (st0 e)).2.at_]) ∧
   Below w.heap.size w w' ∧ IsT w' (fun k => k < w'.heap.size) e 0 0 b := by
 obtain ⟨i0, hi, hz0, hz1, hz2⟩ := info_parts Tryz.infoInt
 have HI : Hid _ := hi
 have HZ0 : Hid _ := hz0
 have HZ1 : Hid _ := hz1
 have HZ2 : Hid _ := hz2
 clear hi hz0 hz1 hz2
 have hf := fun w => Form_any s false w (by omega)
 rw [hn] at hf
 simp only [formInt] at hf
 have hbu := fun w => Build_any s false e w (by omega) hp
 have hcnt := Study_len hp
 have hpa := fun b F w h => pairs_any e b F w (by omega) h
 have hwf := hp.wf
 unfold ptr at hbu hpa
 have HWF : Hid _ := hwf
 clear hp hn hwf
 go_enter Tryz.func33, Tryz.ntmps33
 go_wp2_with (first
  | (go_at_call 60; refine (hf _).mono ?_; rintro _ w1 ⟨rfl, hb1⟩)
  | (go_at_call 61; refine (hbu _).mono ?_; rintro _ w2 ⟨b, rfl, hb2, hT2⟩))
 refine (hpa b _ w2 hT2).mono ?_
 rintro _ w3 ⟨g, cap, vs, rfl, hb3, ho3, hvs⟩
 have hT3 : IsT w3 (fun k => k < w3.heap.size) e 0 0 b := IsT.keep (fun k hk => Nat.lt_of_lt_of_le hk hb3.size) (fun k hk => hb3.block k hk) _ _ _ _ hT2
 have HT3 : Hid _ := hT3
 have HB : Hid (Below w.heap.size w w3) := hb1.trans ((hb2.mono hb1.size).trans (hb3.mono (Nat.le_trans hb1.size hb2.size)))
 have hw3 : w.heap.size ≤ w3.heap.size := HB.out.size
 obtain ⟨n, hnn⟩ : ∃ n, n = e.prs := ⟨_, rfl⟩
 rw [← hnn] at hm ⊢
 have HNN : Hid _ := hnn
 clear hvs ho3 hb1 hb2 hb3 hT2 hT3 hbu hpa hf hnn
 go_wp2
 go_loopw [12, 13] (fun v i wr => ∃ k : Nat, k ≤ n ∧ i = .int .i64 k ∧ wr.ownsRow w3.heap.size 3 1 v k ((List.range k).map fun (x : Nat) => Value.int .i64 x) ∧ Below w3.heap.size w3 wr) (fun _ i _ => n - (intOf i).toNat)
 case atStart => exact ⟨0, by omega, rfl, World.ownsRow_nil _ _ _ _, Below.refl _ _⟩
 case round =>
  obtain ⟨k, hk, rfl, hown, hbel⟩ := hrel
  have HOWN : Hid (wr.ownsRow w3.heap.size 3 1 _ k ((List.range k).map fun (x : Nat) => Value.int .i64 x)) := hown
  have hsz := hbel.size
  clear hown
  by_cases hlt : k < n
  ·go_wp2_with (at_builtin; go_must (refine wpList_append_own _ rfl (.tmp 56) (.tmp 58) 42 rfl w3.heap.size 3 i0 _ 1 8 Tryz.undInts HI.out HZ0.out HZ1.out HZ2.out rfl (by decide) _ k ((List.range k).map fun (x : Nat) => Value.int .i64 x) rfl (HOWN.out.alloc _) ⟨wr.heap.size, 0, none⟩ 1 1 [.int .i64 k] rfl rfl ?c1 ?c2 ?c3 ?c4 ?c5 ?_))
   case c1 =>
    intro j u hj
    rw [← hj]
    exact alloc_cell_at _ _ _ _
   case c2 => intro u hu; simp at hu; subst hu; rfl
   case c3 => unfold maxLen; omega
   case c4 => first | omega | (simp; omega)
   case c5 => first | omega | (simp; omega)
   intro v' w4 hown' hgrow hnil
   have HB2 : Hid (Below w3.heap.size w3 w4) := (hbel.alloc hsz _).grown hgrow (by simp; omega) (fun b hb => (World.ownsRow.lt HOWN.out b hb).1)
   have HO3 : Hid _ := hown'
   clear hown' hgrow hnil
   go_wp2
   go_roundw
   case rel =>
    refine ⟨k + 1, by omega, by go_num, ?_, HB2.out⟩
    have := HO3.out
    rw [List.range_succ, List.map_append]
    exact this
   case measure => simp [intOf]; omega
  ·have hkn : k = n := by omega
   have HKN : Hid _ := hkn
   have hcs := HOWN.out.2
   have hcl : (List.range n).length = n := List.length_range
   have hty := Types_any (w0 := w3) (cls := List.range n) (itFor_small _ _ (fun x hx => by rw [List.mem_range] at hx; omega)) (by omega) e HWF.out b _ _ wr HT3.out (by omega) hbel (by have h := HOWN.out; rw [hkn] at h; rw [hcl]; exact h) (by rw [hcl, HNN.out]; exact Nat.le_refl _) (by
    rcases hcs with ⟨h, _⟩ | ⟨g', cap', cur, h, _⟩
    ·exact ⟨_, _, _, h⟩
    ·exact ⟨_, _, _, h⟩)
   unfold ptr at hty
   have HBEL : Hid _ := hbel
   clear hcs hkn hcl hbel
   go_wp2_with fail
   refine hty.mono ?_
   rintro _ w5 ⟨yb, nv, tv, ov, rfl, hsz5, hb5, hin5⟩
   have c4 : w5.cell? ⟨yb, 4, none⟩ = some (.int .i64 (tyFind (List.range n) e 0 0 [] (st0 e)).2.e) := by rw [blk_cell hin5.y]; rfl
   have c5 : w5.cell? ⟨yb, 5, none⟩ = some (.int .i64 (tyFind (List.range n) e 0 0 [] (st0 e)).2.at_) := by rw [blk_cell hin5.y]; rfl
   have HB5 : Hid (Below w.heap.size w w5) := HB.out.trans ((HBEL.out.mono hw3).trans (hb5.mono (by omega)))
   have HT5 : Hid (IsT w5 (fun k => k < w5.heap.size) e 0 0 b) := IsT.keep (fun k hk => by omega) (fun k hk => hin5.b0.block k hk) _ _ _ _ HT3.out
   clear hin5 hb5 hty
   obtain ⟨R, hR⟩ : ∃ R, R = (tyFind (List.range n) e 0 0 [] (st0 e)).2 := ⟨_, rfl⟩
   rw [← hR] at c4 c5
   have HRR : Hid (R = (tyFind (List.range e.prs) e 0 0 [] (st0 e)).2) := by rw [← HNN.out]; exact hR
   clear hR
   go_wp2
   go_quiet (fail)
   go_wp2
   refine bodyPost_ret (v := .tuple #[ptr b, ptr yb, .int .i64 R.e, .int .i64 R.at_]) (by simp [results, Tryz.results33, go_sem, ptr]) rfl ⟨b, yb, by rw [HRR.out], HB5.out.trans ⟨rfl, rfl, rfl, Nat.le_refl _, fun _ _ => rfl⟩, isT_drew HT5.out⟩
def chkAns (e : PT) : Nat × Nat :=
 if 100 < e.prs then (3, ((e.prl[100]?).map (·.1)).getD 0)
 else ((tyFind (List.range e.prs) e 0 0 [] (st0 e)).2.e, (tyFind (List.range e.prs) e 0 0 [] (st0 e)).2.at_)
theorem errS_at (st : TSt) (e p : Nat) (he : e ≠ 0) : (errS st e p).e = 0 → (errS st e p).at_ = st.at_ := by
 intro h; exact absurd h (errS_e st e p he)
theorem fin_at (id p : Nat) (x : Ty × TSt) : (fin id p x).2.e = 0 → x.2.e = 0 ∧ (fin id p x).2.at_ = x.2.at_ := by
 unfold fin
 simp only
 split
 ·intro h; exact absurd h (errS_e _ _ _ (by decide))
 ·intro h; exact ⟨h, rfl⟩
theorem madeT_at (cls : List Nat) (k : Kw) (p site : Nat) (ks : List Ty) (st : TSt) : (madeT cls k p site ks st).2.e = 0 → (madeT cls k p site ks st).2.at_ = st.at_ := by
 have err : (errS st 5 p).e = 0 → (errS st 5 p).at_ = st.at_ := errS_at st 5 p (by decide)
 unfold madeT
 split <;> (first | (intro _; rfl) | exact err | (split <;> first | (intro _; rfl) | exact err))
theorem stay0 {a b : TSt} (h : a.e ≠ 0 → b.e = a.e ∧ b.at_ = a.at_) (hb : b.e = 0) : a.e = 0 := by
 by_cases e : a.e = 0
 ·exact e
 ·exact absurd ((h e).1.symm.trans hb) e
mutual
theorem tyFind_at (cls : List Nat) : ∀ (t : PT) (id site : Nat) (env : TEnv) (st : TSt), (tyFind cls t id site env st).2.e = 0 → (tyFind cls t id site env st).2.at_ = st.at_
 | .num p s, id, site, env, st => by
  simp only [tyFind]; intro h; exact (fin_at id p _ h).2
 | .name p s, id, site, env, st => by
  simp only [tyFind]
  intro h
  obtain ⟨h1, h2⟩ := fin_at id p _ h
  rw [h2]
  revert h1
  split
  ·intro _; rfl
  ·exact errS_at st 4 p (by decide)
 | .node p k nm rg kids, id, site, env, st => by
  simp only [tyFind]
  intro h
  obtain ⟨h1, h2⟩ := fin_at id p _ h
  rw [h2]
  revert h1
  split
  ·exact tyLet_at cls nm kids (id + 1) site env st
  ·have hx : (if k = .loop then tyLoop cls nm kids (id + 1) site env st else tyKids cls kids (id + 1) (site + if k = .pair then 1 else 0) env st).2.e = 0 → (if k = .loop then tyLoop cls nm kids (id + 1) site env st else tyKids cls kids (id + 1) (site + if k = .pair then 1 else 0) env st).2.at_ = st.at_ := by
    by_cases hk : k = .loop
    ·simp only [if_pos hk]; exact tyLoop_at cls nm kids _ _ env st
    ·simp only [if_neg hk]; exact tyKids_at cls kids _ _ env st
   generalize (if k = .loop then tyLoop cls nm kids (id + 1) site env st else tyKids cls kids (id + 1) (site + if k = .pair then 1 else 0) env st) = x at hx
   split
   ·rename_i hne; intro h0; exact absurd h0 hne
   ·rename_i hne
    have h0 : x.2.e = 0 := by simpa using hne
    intro h1
    rw [madeT_at cls k p site x.1 x.2 h1, hx h0]
theorem tyKids_at (cls : List Nat) : ∀ (ts : List PT) (id site : Nat) (env : TEnv) (st : TSt), (tyKids cls ts id site env st).2.e = 0 → (tyKids cls ts id site env st).2.at_ = st.at_
 | [], _, _, _, st => by simp [tyKids]
 | a :: r, id, site, env, st => by
  simp only [tyKids]
  intro h
  have h2 := tyKids_at cls r (id + a.cnt) (site + a.prs) env (tyFind cls a id site env st).2 h
  have h0 := stay0 (fun e => tyKids_stay cls r (id + a.cnt) (site + a.prs) env _ e) h
  rw [h2, tyFind_at cls a id site env st h0]
theorem tyLet_at (cls : List Nat) (nm : List UInt8) : ∀ (ts : List PT) (id site : Nat) (env : TEnv) (st : TSt), (tyLet cls nm ts id site env st).2.e = 0 → (tyLet cls nm ts id site env st).2.at_ = st.at_
 | [a, b], id, site, env, st => by
  simp only [tyLet]
  intro h
  have h2 := tyFind_at cls b (id + a.cnt) (site + a.prs) (env ++ [(nm, (tyFind cls a id site env st).1)]) (tyFind cls a id site env st).2 h
  have h0 := stay0 (fun e => tyFind_stay cls b (id + a.cnt) (site + a.prs) _ _ e) h
  rw [h2, tyFind_at cls a id site env st h0]
 | [], _, _, _, st => by simp [tyLet]
 | [_], _, _, _, st => by simp [tyLet]
 | _ :: _ :: _ :: _, _, _, _, st => by simp [tyLet]
theorem tyLoop_at (cls : List Nat) (nm : List UInt8) : ∀ (ts : List PT) (id site : Nat) (env : TEnv) (st : TSt), (tyLoop cls nm ts id site env st).2.e = 0 → (tyLoop cls nm ts id site env st).2.at_ = st.at_
 | [a, b, c], id, site, env, st => by
  simp only [tyLoop]
  intro h
  have h3 := tyFind_at cls c _ _ _ _ h
  have h0 := stay0 (fun e => tyFind_stay cls c _ _ _ _ e) h
  have h2 := tyFind_at cls b _ _ _ _ h0
  have h00 := stay0 (fun e => tyFind_stay cls b _ _ _ _ e) h0
  rw [h3, h2, tyFind_at cls a id site env st h00]
 | [], _, _, _, st => by simp [tyLoop]
 | [_], _, _, _, st => by simp [tyLoop]
 | [_, _], _, _, _, st => by simp [tyLoop]
 | _ :: _ :: _ :: _ :: _, _, _, _, st => by simp [tyLoop]
end
theorem prog_ans {e : PT} {ns : List NR} (hna : NA [] e 0 ns) : progAns ns (opn e 0) = chkAns e := by
 have hpr : (opn e 0).filterMap (pairAt ns) = e.prl.map (·.1) := opn_pairs ns e [] 0 ns hna (fun j _ => by rw [Nat.zero_add])
 have hlen : ((opn e 0).filterMap (pairAt ns)).length = e.prs := by rw [hpr, List.length_map, prl_len]
 unfold progAns chkAns manyAns
 rw [hlen]
 by_cases hm : 100 < e.prs
 ·simp only [if_pos hm]
  rw [if_pos (by decide), hpr, List.getElem?_map]
 ·simp only [if_neg hm]
  rw [if_neg (by decide), ckK_eq ns rel0]
  have hA := tyck (List.range e.prs) (fun x hx => by rw [List.mem_range] at hx; omega) e [] ns [] (st0 e) [] 0 0 hna trivial rfl ⟨by simp, by simp⟩
  have hat := tyFind_at (List.range e.prs) e 0 0 [] (st0 e)
  rcases hA with ⟨h0, h1, _⟩ | ⟨_, h1⟩
  ·rw [h1, h0, hat h0]; rfl
  ·exact h1
theorem op_ok {e : PT} {ns : List NR} (hna : NA [] e 0 ns) : OpOk ns (opn e 0) := by
 have hl := hna.len
 refine ⟨by rw [opn_len, hl], fun x hx => ?_⟩
 have := opn_in e 0 x hx
 simp only [Nat.zero_add] at this
 omega
set_option maxRecDepth 100000 in
set_option maxHeartbeats 4000000 in
theorem readPlain_long (s : ByteArray) (w : World) (hs : 3000 < s.size) (hm : s.size ≤ maxLen) : Calls Tryz.prog 31 #[.string s] w fun v w' => v = .returned (.tuple #[treeV (.slice none 0 0) (.slice none 0 0), .int .i64 1, .int .i64 0]) ∧ Below w.heap.size w w' := by
 unfold maxLen at hm
 unfold treeV
 go_enter Tryz.func31, Tryz.ntmps31
 go_wp2
 refine bodyPost_ret (v := .tuple #[.agg #[.slice none 0 0, .slice none 0 0], .int .i64 1, .int .i64 0]) (by simp [results, Tryz.results31, go_sem]) rfl ⟨rfl, (Below.refl _ _).alloc (Nat.le_refl _) _⟩
theorem kept1 {w w2 : World} {A : Obj} (hb : Below (w.alloc A).heap.size (w.alloc A) w2) : w2.heap[w.heap.size]? = some A := by
 rw [hb.block w.heap.size (by simp)]; exact blk_new w A
theorem below1 {w w2 : World} {A : Obj} (hb : Below (w.alloc A).heap.size (w.alloc A) w2) : Below w.heap.size w w2 := ((Below.refl _ w).alloc (Nat.le_refl _) A).trans (hb.mono (by simp))
set_option maxRecDepth 100000 in
set_option maxHeartbeats 4000000 in
theorem readPlain_form (s : ByteArray) (w : World) (hs : s.size ≤ 3000) (q : Nat) (hq : formOf false s.data.toList = some q) : Calls Tryz.prog 31 #[.string s] w fun v w' => v = .returned (.tuple #[treeV (.slice none 0 0) (.slice none 0 0), .int .i64 2, .int .i64 q]) ∧ Below w.heap.size w w' := by
 have hfl : (pProg false s.size (tokens s.data.toList)).fl = some q := by
  unfold formOf at hq
  rw [size_list] at hq
  exact prog_no hq
 have hpp := fun w => ParsePlain_any s w (by omega)
 have HFL : Hid _ := hfl
 clear hfl hq
 unfold treeV
 go_enter Tryz.func31, Tryz.ntmps31
 go_wp2_with fail
 refine (hpp _).mono ?_
 rintro v w1 ⟨hb, hv⟩
 have hr := kept1 hb
 have r0 : w1.cell? ⟨w.heap.size, 0, none⟩ = some (.slice none 0 0) := by rw [blk_cell hr]; rfl
 have r1 : w1.cell? ⟨w.heap.size, 1, none⟩ = some (.slice none 0 0) := by rw [blk_cell hr]; rfl
 have f0 := blk_free hr 0
 have f1 := blk_free hr 1
 have hlt := blk_lt hr
 have HB : Hid _ := below1 hb
 rcases hv with ⟨q', hq', rfl⟩ | ⟨hq', _⟩
 ·have e : q' = q := by rw [HFL.out] at hq'; cases hq'; rfl
  subst e
  unfold treeV
  have hW := blk_alloc (.cells #[.slice none 0 0, .slice none 0 0] 59) (blk_set (blk_set hr 0 (.slice none 0 0)) 1 (.slice none 0 0))
  have s0 : (((w1.setCell ⟨w.heap.size, 0, none⟩ (.slice none 0 0)).setCell ⟨w.heap.size, 1, none⟩ (.slice none 0 0)).alloc (.cells #[.slice none 0 0, .slice none 0 0] 59)).cell? ⟨w.heap.size, 0, none⟩ = some (.slice none 0 0) := by rw [blk_cell hW]; rfl
  have s1 : (((w1.setCell ⟨w.heap.size, 0, none⟩ (.slice none 0 0)).setCell ⟨w.heap.size, 1, none⟩ (.slice none 0 0)).alloc (.cells #[.slice none 0 0, .slice none 0 0] 59)).cell? ⟨w.heap.size, 1, none⟩ = some (.slice none 0 0) := by rw [blk_cell hW]; rfl
  have S0 : Hid _ := s0
  have S1 : Hid _ := s1
  clear hq' hb hr hpp HFL hW s0 s1
  go_wp2
  refine bodyPost_ret (v := .tuple #[.agg #[.slice none 0 0, .slice none 0 0], .int .i64 2, .int .i64 q']) (by have s0 := S0.out; have s1 := S1.out; simp [results, Tryz.results31, go_sem, s0, s1]) rfl ⟨rfl, ?_⟩
  exact ((HB.out.setCell (p := ⟨w.heap.size, 0, none⟩) (Nat.le_refl _) _).setCell (p := ⟨w.heap.size, 1, none⟩) (Nat.le_refl _) _).alloc (by have := HB.out.size; simp [World.setCell]; omega) _
 ·rw [HFL.out] at hq'; cases hq'
set_option maxRecDepth 100000 in
set_option maxHeartbeats 4000000 in
theorem readPlain_tree (s : ByteArray) (w : World) (hs : s.size ≤ 3000) (e : PT) (hp : PE false (tokens s.data.toList) e []) : Calls Tryz.prog 31 #[.string s] w fun v w' => ∃ x1 n1 c1 x2 n2 c2, v = .returned (.tuple #[treeV (.slice x1 n1 c1) (.slice x2 n2 c2), .int .i64 (chkAns e).1, .int .i64 (chkAns e).2]) ∧ Below w.heap.size w w' := by
 obtain ⟨ns, hna, hpg⟩ := prog_yes (len := s.size) hp
 have hcnt := Study_len hp
 have hnl := hna.len
 have hpp := fun w => ParsePlain_any s w (by omega)
 have hpr := fun (w : World) (nv ov : Value) (h : TreeIn w nv ov ns (opn e 0)) => Program_any w nv ov ns (opn e 0) h (op_ok hna) (by omega) (hna.small (fun _ h => by simp at h) (by omega)) (fun j n hj => by have := hna.back j n hj; simpa using this)
 rw [prog_ans hna] at hpr
 have HPG : Hid _ := hpg
 have HPR : Hid _ := hpr
 clear hp hna hpg hpr hnl
 generalize chkAns e = ans at *
 go_enter Tryz.func31, Tryz.ntmps31
 go_wp2_with fail
 refine (hpp _).mono ?_
 rintro v w1 ⟨hb, hv⟩
 have hr := kept1 hb
 have hlt := blk_lt hr
 have HB : Hid _ := below1 hb
 have HR : Hid _ := hr
 rcases hv with ⟨q', hq', _⟩ | ⟨_, nv, ov, rfl, hT⟩
 ·rw [HPG.out] at hq'; cases hq'
 ·rw [HPG.out] at hT
  simp only at hT
  obtain ⟨x1, c1, e1⟩ := slice_any hT.nd
  obtain ⟨x2, c2, e2⟩ := slice_any hT.op
  have hpr := HPR.out (w1.alloc (.cells #[nv, ov] 59)) nv ov (hT.below ((Below.refl _ w1).alloc (Nat.le_refl _) _))
  subst e1
  subst e2
  unfold treeV at hpr
  unfold treeV
  clear hT hb hr hpp
  go_wp2_with fail
  refine hpr.mono ?_
  rintro _ w2 ⟨rfl, hb2⟩
  have hk := kept1 hb2
  have k0 : w2.cell? ⟨w1.heap.size, 0, none⟩ = some (.slice x1 ns.length c1) := by rw [blk_cell hk]; rfl
  have k1 : w2.cell? ⟨w1.heap.size, 1, none⟩ = some (.slice x2 (opn e 0).length c2) := by rw [blk_cell hk]; rfl
  have hr2 : w2.heap[w.heap.size]? = some (.cells #[.slice none 0 0, .slice none 0 0] 59 (0, 0)) := by
   rw [hb2.block _ (by simp; omega)]; exact blk_alloc _ HR.out
  have r0 : w2.cell? ⟨w.heap.size, 0, none⟩ = some (.slice none 0 0) := by rw [blk_cell hr2]; rfl
  have r1 : w2.cell? ⟨w.heap.size, 1, none⟩ = some (.slice none 0 0) := by rw [blk_cell hr2]; rfl
  have f0 := blk_free hr2 0
  have f1 := blk_free hr2 1
  have hB2 : Below w.heap.size w w2 := HB.out.trans ((below1 hb2).mono HB.out.size)
  have HB2 : Hid _ := hB2
  have hne : w.heap.size ≠ w1.heap.size := by omega
  clear hk hr2 hb2 hB2 hpr
  go_wp2
  refine bodyPost_ret (v := .tuple #[.agg #[.slice x1 ns.length c1, .slice x2 (opn e 0).length c2], .int .i64 ans.1, .int .i64 ans.2]) (by simp [results, Tryz.results31, go_sem, r0, r1]) rfl ⟨x1, ns.length, c1, x2, (opn e 0).length, c2, rfl, ?_⟩
  exact (HB2.out.setCell (p := ⟨w.heap.size, 0, none⟩) (Nat.le_refl _) _).setCell (p := ⟨w.heap.size, 1, none⟩) (Nat.le_refl _) _
open Go.Lib (strCells)
theorem run_append_str {P : Program} (w : World) (t u ty e : TypeId) (i : TypeInfo) (ht : P.underlying t = some (.slice e)) (hu : P.underlying u = some .string) (hi : P.info? e = some i) (hz : i.zero = some (.int .u8 0))
  (hsize : i.size = 1) (hby : i.bytes = 1) (base : Nat) (v : Value) (n : Nat) (xs : List Value) (hown : w.ownsRow base e 1 v n xs) (s : ByteArray) (hlim : n + s.size ≤ 140737488355328) (hbase : base ≤ w.heap.size) :
  ∃ v' w', (Builtin.append_ #[t, u] ty #[v, .string s]).run P w = .ok v' w' ∧ w'.ownsRow base e 1 v' (n + s.size) (xs ++ strCells s) ∧ w.grownBy w' v.ownBlock ∧ (∀ g, v'.ownBlock = some g → v.ownBlock = some g ∨ w.heap.size ≤ g) := by
 have h63 : n + s.size ≤ maxLen := by unfold maxLen; omega
 obtain ⟨v', w', hr, h2, h3, h4⟩ := Lib.run_append_own_string (P := P) w base t u ty e i ht hu hi hz hsize hby v n xs hown s h63 hlim hbase
 refine ⟨v', w', hr, h2, h3, ?_⟩
 intro g hg
 rcases hown.2 with ⟨hv, hn0⟩ | ⟨g0, cap, cur, hv, hgb, hh, hn', hcm, hcs, htake⟩
 ·subst hv
  subst hn0
  have hx : xs = [] := List.eq_nil_of_length_eq_zero (by simpa using hown.1)
  subst hx
  obtain ⟨v2, w2, hr2, k2, _, _⟩ := Lib.run_append_own_string (P := P) w w.heap.size t u ty e i ht hu hi hz hsize hby (.slice none 0 0) 0 [] (World.ownsRow_nil w _ e 1) s h63 hlim (Nat.le_refl _)
  rw [hr] at hr2
  cases hr2
  exact Or.inr (k2.lt g hg).1
 ·subst hv
  by_cases hroom : n + s.size ≤ cap
  ·have hr2 := Lib.run_append_room_string (P := P) w t u ty e i ht hu hi hsize g0 n cap cur hh s hroom (by omega)
   rw [hr] at hr2
   cases hr2
   exact Or.inl hg
  ·have hr2 := Lib.run_append_grow_string (P := P) w t u ty e i (.int .u8 0) ht hu hi hz ⟨g0, 0, none⟩ n cap xs (by rw [hsize]; exact hown.1) (hown.cells (g := g0) rfl) s (by omega) (by unfold maxLen at h63; omega) (by rw [hby]; exact growslice_fits (by omega) (by omega))
   rw [hr] at hr2
   cases hr2
   simp [Value.ownBlock] at hg
   exact Or.inr (by omega)
theorem wpList_append_str {P : Program} {w : World} {ops : Array Oper} {rest : List Oper} {o : Oper} {a : Act} {Q : Exit → Act → World → Prop} (hgd : o.guard = none) (sl x : Operand) (t u : TypeId)
  (ho : o.op = .call { callee := .builtin .append, args := #[sl, x], argTypes := #[t, u] }) (base : Nat) (e : TypeId) (i : TypeInfo) (ht : P.underlying t = some (.slice e)) (hu : P.underlying u = some .string) (hi : P.info? e = some i) (hz : i.zero = some (.int .u8 0))
  (hsize : i.size = 1) (hby : i.bytes = 1) (v : Value) (n : Nat) (xs : List Value) (hs : a.eval sl = v) (hown : w.ownsRow base e 1 v n xs) (s : ByteArray) (hx : a.eval x = .string s) (hlim : n + s.size ≤ 140737488355328) (hbase : base ≤ w.heap.size)
  (h : ∀ v' w', w'.ownsRow base e 1 v' (n + s.size) (xs ++ strCells s) → w.grownBy w' v.ownBlock → (∀ g, v'.ownBlock = some g → v.ownBlock = some g ∨ w.heap.size ≤ g) → wpList P ops Q rest (a.put o.dst v') w') : wpList P ops Q (o :: rest) a w := by
 refine wpList_plain hgd fun K hK => ?_
 obtain ⟨v', w', hr, h2, h3, h4⟩ := run_append_str (P := P) w t u o.type e i ht hu hi hz hsize hby base v n xs hown s hlim hbase
 unfold Oper.wp execOp
 simp only [ho, resolve, invoke, builtin, Sem.run_bind, Sem.run_pure, Result.andThen_ok, List.map_toArray, List.map_cons, List.map_nil, hs, hx, hr]
 exact hK _ _ (h v' w' h2 h3 h4)
theorem Tryz.infoU8 : (Tryz.prog.info? 5).map (fun i => (i.zero, i.size, i.bytes)) = some (some (.int .u8 0), 1, 1) := by kernel_rfl
theorem Tryz.undBytes : Tryz.prog.underlying 121 = some (.slice 5) := by kernel_rfl
theorem Tryz.undStr : Tryz.prog.underlying 9 = some .string := by kernel_rfl
structure Ly where
 lr : Value
 la : Value
 regs : List Int
 news : List Int
structure WIn (L : Ly) (wb : Nat) (w : World) (nv ov v : Value) (tx : List UInt8) : Prop where
 blk : w.heap[wb]? = some (.cells #[nv, ov, L.lr, L.la, v] 123 (0, 0))
 row : w.ownsRow (wb + 1) 5 1 v tx.length (strCells (bs tx))
structure WFr (wb : Nat) (w w' : World) (v v' : Value) : Prop where
 os : w'.os = w.os
 tape : w'.tape = w.tape
 output : w'.output = w.output
 size : w.heap.size ≤ w'.heap.size
 blk : ∀ k, k < w.heap.size → k ≠ wb → v.ownBlock ≠ some k → w'.heap[k]? = w.heap[k]?
 o : ∀ g, v'.ownBlock = some g → v.ownBlock = some g ∨ w.heap.size ≤ g
theorem WFr.refl (wb : Nat) (w : World) (v : Value) : WFr wb w w v v := ⟨rfl, rfl, rfl, Nat.le_refl _, fun _ _ _ _ => rfl, fun _ h => Or.inl h⟩
theorem WFr.trans {wb : Nat} {w w1 w2 : World} {v v1 v2 : Value} (h : WFr wb w w1 v v1) (h' : WFr wb w1 w2 v1 v2) : WFr wb w w2 v v2 := by
 refine ⟨h'.os.trans h.os, h'.tape.trans h.tape, h'.output.trans h.output, Nat.le_trans h.size h'.size, ?_, ?_⟩
 ·intro k hk hp ho
  rw [h'.blk k (Nat.lt_of_lt_of_le hk h.size) hp (fun e => by rcases h.o k e with e | e; exact ho e; omega)]
  exact h.blk k hk hp ho
 ·intro g hg
  rcases h'.o g hg with e | e
  ·exact h.o g e
  ·exact Or.inr (Nat.le_trans h.size e)
theorem WFr.of_below {wb : Nat} {w w' : World} (v : Value) (h : Below w.heap.size w w') : WFr wb w w' v v := ⟨h.os, h.tape, h.output, h.size, fun k hk _ _ => h.block k hk, fun _ h => Or.inl h⟩
theorem WIn.below {L : Ly} {wb : Nat} {w w' : World} {nv ov v : Value} {tx : List UInt8} (h : WIn L wb w nv ov v tx) (hb : Below w.heap.size w w') : WIn L wb w' nv ov v tx :=
 ⟨by rw [hb.block wb (blk_lt h.blk)]; exact h.blk, owns_below h.row hb⟩
set_option maxRecDepth 100000 in
set_option maxHeartbeats 1000000 in
theorem put_any {L : Ly} (wb : Nat) (w : World) (nv ov v : Value) (tx s : List UInt8) (h : WIn L wb w nv ov v tx) (hl : tx.length + s.length ≤ 400000000) :
  Calls Tryz.prog 111 #[.pointer (some ⟨wb, 0, none⟩), .string (bs s)] w fun e w' => ∃ v', e = .returned (.tuple #[]) ∧ WFr wb w w' v v' ∧ WIn L wb w' nv ov v' (tx ++ s) := by
 obtain ⟨i0, hi, hz0, hz1, hz2⟩ := info_parts Tryz.infoU8
 have HI : Hid _ := hi
 have HZ0 : Hid _ := hz0
 have HZ1 : Hid _ := hz1
 have HZ2 : Hid _ := hz2
 clear hi hz0 hz1 hz2
 have hb := h.blk
 have hlt := blk_lt hb
 have x2 : w.cell? ⟨wb, 4, none⟩ = some v := by rw [blk_cell hb]; rfl
 have hsl := bs_size s
 obtain ⟨xa, xn, xc, hv⟩ : ∃ a n c, v = .slice a n c := by
  rcases h.row.2 with ⟨h1, _⟩ | ⟨g, cap, cur, h1, _⟩
  ·exact ⟨_, _, _, h1⟩
  ·exact ⟨_, _, _, h1⟩
 subst hv
 have HW : Hid _ := h
 have HBK : Hid _ := hb
 clear h hb
 go_enter Tryz.func111, Tryz.ntmps111
 go_wp2_with (at_builtin; go_must (refine wpList_append_str rfl (.tmp 8) (.tmp 9) 121 9 rfl (wb + 1) 5 i0 Tryz.undBytes Tryz.undStr HI.out HZ0.out HZ1.out HZ2.out _ tx.length (strCells (bs tx)) rfl HW.out.row (bs s) rfl (by omega) (by omega) ?_))
 intro v' w1 hown hgrow hfresh
 obtain ⟨ya, yn, yc, hv'⟩ : ∃ a n c, v' = .slice a n c := by
  rcases hown.2 with ⟨h1, _⟩ | ⟨g, cap, cur, h1, _⟩
  ·exact ⟨_, _, _, h1⟩
  ·exact ⟨_, _, _, h1⟩
 subst hv'
 have hnb : (Value.slice xa xn xc).ownBlock ≠ some wb := fun e => by have := (HW.out.row.lt wb e).1; omega
 have hb1 : w1.heap[wb]? = some (.cells #[nv, ov, L.lr, L.la, .slice xa xn xc] 123 (0, 0)) := by rw [hgrow.block wb hlt (fun e => hnb e.symm)]; exact HBK.out
 have x2' : w1.cell? ⟨wb, 4, none⟩ = some (.slice xa xn xc) := by rw [blk_cell hb1]; rfl
 have f2 := blk_free hb1 4
 have hlt1 := blk_lt hb1
 have hset := blk_set hb1 4 (.slice ya yn yc)
 have HSET : Hid _ := hset
 have HO : Hid (w1.ownsRow (wb + 1) 5 1 (.slice ya yn yc) (tx.length + s.length) (strCells (bs tx) ++ strCells (bs s))) := hown
 have HG : Hid _ := hgrow
 have HF : Hid _ := hfresh
 clear hown hgrow hfresh hb1 hset
 go_wp2
 refine bodyPost_end (v := .tuple #[]) (by simp [results, Tryz.results111, go_sem]) rfl ⟨.slice ya yn yc, rfl, ?_, ?_⟩
 ·refine ⟨HG.out.os, HG.out.tape, HG.out.output, by have := HG.out.size; simp [World.setCell]; omega, ?_, HF.out⟩
  intro k hk hkw hko
  rw [blk_other _ _ (by simpa using hkw)]
  exact HG.out.block k hk (fun e => hko e.symm)
 ·refine ⟨HSET.out, ?_⟩
  have e : strCells (bs tx) ++ strCells (bs s) = strCells (bs (tx ++ s)) := by simp [strCells, bs]
  have h := HO.out
  rw [e] at h
  rw [List.length_append]
  refine owns_blk h (fun k hk => blk_other _ _ ?_)
  have := (h.lt k hk).1
  simp only; omega
open Go.Lib (decDigits)
mutual
def Shows (ns : List NR) : PT → Nat → Prop
 | .num _ s, base => ∃ n, ns[base]? = some n ∧ n.form = 1 ∧ n.num = valueL s
 | .name _ s, base => ∃ n, ns[base]? = some n ∧ n.form = 2 ∧ n.word = s
 | .node _ k nm _ kids, base => (∃ n, ns[base + cntL kids]? = some n ∧ n.form = formK k ∧ n.word = nm ∧ n.p0 = (partsL kids base).getD 0 (-1) ∧ n.p1 = (partsL kids base).getD 1 (-1) ∧ n.p2 = (partsL kids base).getD 2 (-1)) ∧ ShowsL ns kids base
def ShowsL (ns : List NR) : List PT → Nat → Prop
 | [], _ => True
 | t :: r, base => Shows ns t base ∧ ShowsL ns r (base + t.cnt)
end
theorem at_mid {α : Type} (pre a post : List α) (j : Nat) (x : α) (h : a[j]? = some x) : (pre ++ (a ++ post))[pre.length + j]? = some x := by
 have hj := (List.getElem?_eq_some_iff.1 h).1
 rw [List.getElem?_append_right (by omega), Nat.add_sub_cancel_left, List.getElem?_append_left hj]; exact h
mutual
theorem NA.shows : ∀ {scope : Sc} {t : PT} {base : Nat} {ms : List NR}, NA scope t base ms → ∀ (pre post : List NR), pre.length = base → Shows (pre ++ (ms ++ post)) t base
 | _, .num _ s, _, _, h, pre, post, hb => by
  simp only [NA] at h; subst h; subst hb
  simp only [Shows]
  exact ⟨_, at_mid pre _ post 0 _ rfl, rfl, rfl⟩
 | _, .name _ s, _, _, h, pre, post, hb => by
  simp only [NA] at h; subst h; subst hb
  simp only [Shows]
  exact ⟨_, at_mid pre _ post 0 _ rfl, rfl, rfl⟩
 | _, .node p k nm rg kids, base, _, h, pre, post, hb => by
  simp only [NA] at h
  obtain ⟨ks, beh, h1, rfl⟩ := h
  have hl := NAs.len h1
  simp only [Shows]
  refine ⟨⟨⟨formK k, p, beh, 0, nm, valueL rg, -1, (partsL kids base).getD 0 (-1), (partsL kids base).getD 1 (-1), (partsL kids base).getD 2 (-1)⟩, ?_, rfl, rfl, rfl, rfl, rfl⟩, ?_⟩
  ·rw [← hl]; conv => lhs; rw [show base + ks.length = pre.length + ks.length from by rw [hb]]
   refine at_mid pre _ post ks.length _ ?_
   rw [List.getElem?_append_right (Nat.le_refl _), Nat.sub_self]; rfl
  ·have h2 := NAs.shows h1 pre (⟨formK k, p, beh, 0, nm, valueL rg, -1, (partsL kids base).getD 0 (-1), (partsL kids base).getD 1 (-1), (partsL kids base).getD 2 (-1)⟩ :: post) hb
   rw [List.append_assoc, List.singleton_append]
   exact h2
theorem NAs.shows : ∀ {scope : Sc} {nm : List UInt8} {ts : List PT} {bs : List Bool} {base : Nat} {ms : List NR}, NAs scope nm ts bs base ms → ∀ (pre post : List NR), pre.length = base → ShowsL (pre ++ (ms ++ post)) ts base
 | _, _, [], _, _, _, _, _, _, _ => by simp [ShowsL]
 | _, _, _ :: _, [], _, _, h, _, _, _ => by simp [NAs] at h
 | _, _, t :: r, b :: bs, _, _, h, pre, post, hb => by
  simp only [NAs] at h
  obtain ⟨a, c, h1, h2, rfl⟩ := h
  have hl := NA.len h1
  simp only [ShowsL]
  constructor
  ·have := NA.shows h1 pre (c ++ post) hb
   rw [List.append_assoc]; exact this
  ·have := NAs.shows h2 (pre ++ a) post (by rw [List.length_append, hl, hb])
   simp only [List.append_assoc] at this ⊢; exact this
end
theorem NA.shows0 {scope : Sc} {t : PT} {ns : List NR} (h : NA scope t 0 ns) : Shows ns t 0 := by
 have := NA.shows h [] [] rfl
 simpa using this
theorem wordOf_any (k : Kw) (w : World) (hk : k ≠ .new) : Calls Tryz.prog 169 #[.int .i64 (formK k)] w fun v w' => v = .returned (.string (bs k.bytes)) ∧ w' = w := by
 cases k <;> first | exact absurd rfl hk | (go_enter Tryz.func169, Tryz.ntmps169; go_wp2; go_ret; exact ⟨rfl, rfl⟩)
def behK : Kw → Int
 | .let_ => 0
 | .loop => 1
 | _ => -1
theorem partBehindName_any (k : Kw) (w : World) : Calls Tryz.prog 170 #[.int .i64 (formK k)] w fun v w' => v = .returned (.int .i64 (behK k)) ∧ w' = w := by
 cases k <;> (go_enter Tryz.func170, Tryz.ntmps170; go_wp2; go_ret; exact ⟨rfl, rfl⟩)
def opR (r : Nat) : List UInt8 := [40, 110, 101, 119] ++ ([32, 35] ++ (decDigits r ++ [32]))
def opT : List Int → Nat → Int → List UInt8
 | [], _, _ => []
 | a :: l, r, i => (if a = i then opR r else []) ++ opT l (r + 1) i
def clN (news : List Int) (i : Int) : Nat := (news.filter (· == i)).length
def clT (news : List Int) (i : Int) : List UInt8 := List.replicate (clN news i) 41
def rgV (regs : List Int) (i : Nat) : Int := (regs[i]?).getD (-1)
def rgT (regs : List Int) (i : Nat) : List UInt8 := if rgV regs i = -1 then [] else [32, 35] ++ decDigits (rgV regs i).toNat
mutual
def PT.ftx (regs news : List Int) : PT → Nat → List UInt8
 | .num _ s, _ => decDigits (valueL s).toNat
 | .name _ s, _ => s
 | .node _ k nm _ kids, b => if k = .new then (wtxL regs news kids b).headD [] else 40 :: (k.bytes ++ (rgT regs (b + cntL kids) ++ (joinT k nm 0 (wtxL regs news kids b) ++ [41])))
def wtxL (regs news : List Int) : List PT → Nat → List (List UInt8)
 | [], _ => []
 | t :: r, b => (opT news 0 ((b + t.cnt : Nat) - 1 : Int) ++ (PT.ftx regs news t b ++ clT news ((b + t.cnt : Nat) - 1 : Int))) :: wtxL regs news r (b + t.cnt)
end
def PT.wtx (regs news : List Int) (t : PT) (b : Nat) : List UInt8 := opT news 0 ((b + t.cnt : Nat) - 1 : Int) ++ (t.ftx regs news b ++ clT news ((b + t.cnt : Nat) - 1 : Int))
theorem opT_snoc (i a : Int) : ∀ (l : List Int) (r : Nat), opT (l ++ [a]) r i = opT l r i ++ (if a = i then opR (r + l.length) else [])
 | [], r => by simp [opT]
 | x :: l, r => by
  simp only [List.cons_append, opT, opT_snoc i a l (r + 1), List.append_assoc, List.length_cons]
  rw [show r + 1 + l.length = r + (l.length + 1) by omega]
theorem clN_snoc (l : List Int) (a i : Int) : clN (l ++ [a]) i = clN l i + (if a = i then 1 else 0) := by
 unfold clN
 rw [List.filter_append, List.length_append]
 by_cases h : a = i <;> simp [h]
theorem opR_len (r : Nat) (h : r ≤ 9999) : (opR r).length ≤ 11 := by
 have := dec_len4 r h
 unfold opR; simp only [List.length_append, List.length_cons, List.length_nil]; omega
theorem opT_len (i : Int) : ∀ (l : List Int) (r : Nat), r + l.length ≤ 9999 → (opT l r i).length ≤ 11 * l.length
 | [], _, _ => by simp [opT]
 | a :: l, r, h => by
  simp only [List.length_cons] at h
  have h1 := opT_len i l (r + 1) (by omega)
  have h2 := opR_len r (by omega)
  simp only [opT, List.length_append, List.length_cons]
  split
  ·omega
  ·simp only [List.length_nil]; omega
theorem clN_le (l : List Int) (i : Int) : clN l i ≤ l.length := List.length_filter_le _ _
theorem rgT_len (regs : List Int) (i : Nat) (h : rgV regs i ≤ 9999) : (rgT regs i).length ≤ 6 := by
 unfold rgT
 split
 ·simp
 ·have := dec_len4 (rgV regs i).toNat (by omega)
  simp only [List.length_append, List.length_cons, List.length_nil]; omega
structure LyB (regs news : List Int) : Prop where
 n : news.length ≤ 150
 r : ∀ i, rgV regs i ≤ 9999
theorem joinT_piece (k : Kw) (nm : List UInt8) (h : nm.length ≤ 9000) : ∀ (l : List (List UInt8)) (i : Nat) (B : Nat), (l.map fun x => x.length + 9002).sum ≤ B → (joinT k nm i l).length ≤ B
 | [], _, _, _ => by simp [joinT]
 | x :: r, i, B, hb => by
  simp only [List.map_cons, List.sum_cons] at hb
  have h1 := joinT_piece k nm h r (i + 1) (B - (x.length + 9002)) (by omega)
  have h2 := pieceT_len k nm i x h
  simp only [joinT, List.length_append]; omega
mutual
theorem ftx_len {regs news : List Int} (H : LyB regs news) : ∀ (t : PT) (b : Nat), t.tame → (t.ftx regs news b).length + 9002 + 1800 ≤ 20000 * t.cnt
 | .num _ s, _, h => by
  simp only [PT.tame] at h
  simp only [PT.ftx, PT.cnt]
  have := dec_len4 (valueL s).toNat (by omega)
  omega
 | .name _ s, _, h => by simp only [PT.tame] at h; simp only [PT.ftx, PT.cnt]; omega
 | .node _ k nm _ kids, b, h => by
  simp only [PT.tame] at h
  have h0 := wtxL_len H kids b h.2
  have h1 := joinT_piece k nm h.1 (wtxL regs news kids b) 0 _ h0
  have h3 : k.bytes.length ≤ 4 := by cases k <;> decide
  have h4 := rgT_len regs (b + cntL kids) (H.r _)
  have h5 : ((wtxL regs news kids b).headD []).length ≤ 20000 * cntL kids := by
   cases hw : wtxL regs news kids b with
   | nil => simp
   | cons x r => rw [hw] at h0; simp only [List.map_cons, List.sum_cons, List.headD_cons] at h0 ⊢; omega
  simp only [PT.ftx, PT.cnt]
  split
  ·omega
  ·simp only [List.length_cons, List.length_append, List.length_nil]; omega
theorem wtxL_len {regs news : List Int} (H : LyB regs news) : ∀ (ts : List PT) (b : Nat), tameL ts → ((wtxL regs news ts b).map fun x => x.length + 9002).sum ≤ 20000 * cntL ts
 | [], _, _ => by simp [wtxL]
 | t :: r, b, h => by
  simp only [tameL] at h
  have h1 := ftx_len H t b h.1
  have h2 := wtxL_len H r (b + t.cnt) h.2
  have h3 := opT_len ((b + t.cnt : Nat) - 1 : Int) news 0 (by have := H.n; omega)
  have h4 := clN_le news ((b + t.cnt : Nat) - 1 : Int)
  have h5 := H.n
  simp only [wtxL, List.map_cons, List.sum_cons, cntL, List.length_append, clT, List.length_replicate]
  omega
end
theorem wtxL_take (regs news : List Int) : ∀ (ts : List PT) (b j : Nat), wtxL regs news (ts.take j) b = (wtxL regs news ts b).take j
 | [], b, j => by simp [wtxL]
 | t :: r, b, 0 => by simp [wtxL]
 | t :: r, b, j + 1 => by simp [wtxL, wtxL_take regs news r (b + t.cnt) j]
theorem wtxL_get (regs news : List Int) : ∀ (ts : List PT) (b j : Nat) (x : PT), ts[j]? = some x → (wtxL regs news ts b)[j]? = some (x.wtx regs news (b + cntL (ts.take j)))
 | [], _, _, _, h => by simp at h
 | t :: r, b, 0, x, h => by simp only [List.getElem?_cons_zero, Option.some.injEq] at h; subst h; simp [wtxL, PT.wtx, cntL]
 | t :: r, b, j + 1, x, h => by
  have := wtxL_get regs news r (b + t.cnt) j x (by simpa using h)
  simp only [wtxL, List.getElem?_cons_succ, List.take_succ_cons, cntL, ← Nat.add_assoc]
  exact this
theorem wtxL_length (regs news : List Int) : ∀ (ts : List PT) (b : Nat), (wtxL regs news ts b).length = ts.length
 | [], _ => rfl
 | t :: r, b => by simp [wtxL, wtxL_length regs news r]
def accW (regs news : List Int) (k : Kw) (nm : List UInt8) (kids : List PT) (b i j : Nat) : List UInt8 := 40 :: (k.bytes ++ (rgT regs i ++ joinT k nm 0 (wtxL regs news (kids.take j) b)))
theorem accW_succ (regs news : List Int) (k : Kw) (nm : List UInt8) (kids : List PT) (b i j : Nat) (x : PT) (hx : kids[j]? = some x) : accW regs news k nm kids b i (j + 1) = accW regs news k nm kids b i j ++ pieceT k nm j (x.wtx regs news (b + cntL (kids.take j))) := by
 have hlt : j < kids.length := (List.getElem?_eq_some_iff.1 hx).1
 unfold accW
 rw [wtxL_take, wtxL_take, List.take_add_one, wtxL_get regs news kids b j x hx]
 simp only [Option.toList_some]
 rw [joinT_snoc, List.length_take, wtxL_length, Nat.min_eq_left (by omega), Nat.zero_add]
 simp [List.append_assoc]
theorem accW_len {regs news : List Int} (H : LyB regs news) (k : Kw) (nm : List UInt8) (kids : List PT) (b i j : Nat) (hn : nm.length ≤ 9000) (ht : tameL kids) : (accW regs news k nm kids b i j).length ≤ 11 + 20000 * cntL (kids.take j) := by
 have h0 := wtxL_len H (kids.take j) b (tameL_take kids j ht)
 have h1 := joinT_piece k nm hn (wtxL regs news (kids.take j) b) 0 _ h0
 have h3 : k.bytes.length ≤ 4 := by cases k <;> decide
 have h4 := rgT_len regs i (H.r _)
 unfold accW
 simp only [List.length_cons, List.length_append]
 omega
theorem accW_end (regs news : List Int) (p : Nat) (k : Kw) (nm rg : List UInt8) (kids : List PT) (b : Nat) (hk : k ≠ .new) : accW regs news k nm kids b (b + cntL kids) kids.length ++ [41] = (PT.node p k nm rg kids).ftx regs news b := by
 unfold accW
 simp [PT.ftx, hk]
end Go.Proofs.YtpicaknklgccoaaGreatDoor
