import Derived.Test.YtpicaknklgccoabGreatDoorX28
import Derived.Test.YtpicaknklgccoabGreatDoorX13
import Derived.Test.YtpicaknklgccoabGreatDoorX1
import Derived.Test.YtpicaknklgccoabGreatDoorX15
namespace Go.Proofs.YtpicaknklgccoabGreatDoor
open Go.RowKit
theorem slice_anyU {w : World} {base : Nat} {e : TypeId} {size : Nat} {v : Value} {n : Nat} {xs : List Value} (h : w.ownsRow base e size v n xs) : ∃ a c, v = .slice a n c := by
 rcases h.2 with ⟨h1, h2⟩ | ⟨g, cap, cur, h1, _⟩
 ·exact ⟨none, 0, by rw [h1, h2]⟩
 ·exact ⟨_, _, h1⟩
set_option maxRecDepth 100000 in
set_option maxHeartbeats 4000000 in
theorem parsePlaced_full (s : ByteArray) (w : World) (hs : s.size ≤ 9000) (e : PT) (hp : PE true (tokens s.data.toList) e []) : Calls Tryz.prog 36 #[.string s] w fun v w' => ∃ x1 n1 c1 x2 n2 c2 ns, v = .returned (.tuple #[treeV (.slice x1 n1 c1) (.slice x2 n2 c2), .int .i64 0, .int .i64 0]) ∧ Below w.heap.size w w' ∧ TreeIn w' (.slice x1 n1 c1) (.slice x2 n2 c2) ns (opn e 0) ∧ NA [] e 0 ns := by
 obtain ⟨ns, hna, hpg⟩ := prog_yes (len := s.size) hp
 have hpp := fun w => ParsePlaced_any s w (by omega)
 have HPG : Hid _ := hpg
 have HNA : Hid _ := hna
 clear hp hna hpg
 go_enter Tryz.func36, Tryz.ntmps36
 go_wp2_with fail
 refine (hpp _).mono ?_
 rintro v w1 ⟨hb, hv⟩
 have hr := kept1 hb
 have hlt := blk_lt hr
 have HB : Hid _ := below1 hb
 rcases hv with ⟨q', hq', _⟩ | ⟨_, nv, ov, rfl, hT⟩
 ·rw [HPG.out] at hq'; cases hq'
 ·rw [HPG.out] at hT
  simp only at hT
  obtain ⟨x1, c1, e1⟩ := slice_anyU hT.nd
  obtain ⟨x2, c2, e2⟩ := slice_anyU hT.op
  have HNN : Hid _ := own_neH hT.nd hr (by decide)
  have HNO : Hid _ := own_neH hT.op hr (by decide)
  subst e1
  subst e2
  have r0 : w1.cell? ⟨w.heap.size, 0, none⟩ = some (.slice none 0 0) := by rw [blk_cell hr]; rfl
  have r1 : w1.cell? ⟨w.heap.size, 1, none⟩ = some (.slice none 0 0) := by rw [blk_cell hr]; rfl
  have f0 := blk_free hr 0
  have f1 := blk_free hr 1
  have hW := blk_alloc (.cells #[.slice x1 ns.length c1, .slice x2 (opn e 0).length c2] 62) (blk_set (blk_set hr 0 (.slice x1 ns.length c1)) 1 (.slice x2 (opn e 0).length c2))
  have S0 : Hid ((((w1.setCell ⟨w.heap.size, 0, none⟩ (.slice x1 ns.length c1)).setCell ⟨w.heap.size, 1, none⟩ (.slice x2 (opn e 0).length c2)).alloc (.cells #[.slice x1 ns.length c1, .slice x2 (opn e 0).length c2] 62)).cell? ⟨w.heap.size, 0, none⟩ = some (.slice x1 ns.length c1)) := (blk_cell hW 0).trans rfl
  have S1 : Hid ((((w1.setCell ⟨w.heap.size, 0, none⟩ (.slice x1 ns.length c1)).setCell ⟨w.heap.size, 1, none⟩ (.slice x2 (opn e 0).length c2)).alloc (.cells #[.slice x1 ns.length c1, .slice x2 (opn e 0).length c2] 62)).cell? ⟨w.heap.size, 1, none⟩ = some (.slice x2 (opn e 0).length c2)) := (blk_cell hW 1).trans rfl
  have hTS : TreeIn ((w1.setCell ⟨w.heap.size, 0, none⟩ (.slice x1 ns.length c1)).setCell ⟨w.heap.size, 1, none⟩ (.slice x2 (opn e 0).length c2)) (.slice x1 ns.length c1) (.slice x2 (opn e 0).length c2) ns (opn e 0) := ⟨owns_blk hT.nd (fun k hk => by rw [blk_other _ _ (by simpa using HNN.out k hk), blk_other _ _ (by simpa using HNN.out k hk)]), owns_blk hT.op (fun k hk => by rw [blk_other _ _ (by simpa using HNO.out k hk), blk_other _ _ (by simpa using HNO.out k hk)])⟩
  have HTS : Hid _ := hTS.below ((Below.refl _ _).alloc (Nat.le_refl _) (.cells #[.slice x1 ns.length c1, .slice x2 (opn e 0).length c2] 62))
  have hne : w.heap.size ≠ w1.heap.size := by omega
  unfold treeV
  clear hT hb hr hpp hW hTS
  go_wp2
  refine bodyPost_ret (v := .tuple #[.agg #[.slice x1 ns.length c1, .slice x2 (opn e 0).length c2], .int .i64 0, .int .i64 0]) (by have s0 := S0.out; have s1 := S1.out; simp [results, Tryz.results36, go_sem, s0, s1]) rfl ⟨x1, ns.length, c1, x2, (opn e 0).length, c2, ns, rfl, ?_, HTS.out, HNA.out⟩
  exact ((HB.out.setCell (p := ⟨w.heap.size, 0, none⟩) (Nat.le_refl _) _).setCell (p := ⟨w.heap.size, 1, none⟩) (Nat.le_refl _) _).alloc (by have := HB.out.size; simp [World.setCell]; omega) _
set_option maxRecDepth 100000 in
set_option maxHeartbeats 4000000 in
theorem readPlaced_full (s : ByteArray) (w : World) (hs : s.size ≤ 9000) (e : PT) (hp : PE true (tokens s.data.toList) e []) : Calls Tryz.prog 26 #[.string s] w fun v w' => ∃ x1 n1 c1 x2 n2 c2 ns, v = .returned (.tuple #[treeV (.slice x1 n1 c1) (.slice x2 n2 c2), .int .i64 (chkAns e).1, .int .i64 (chkAns e).2]) ∧ Below w.heap.size w w' ∧ TreeIn w' (.slice x1 n1 c1) (.slice x2 n2 c2) ns (opn e 0) ∧ NA [] e 0 ns := by
 have hcnt := Study_len hp
 have hpp := fun w => parsePlaced_full s w hs e hp
 have hpr := fun (w : World) (nv ov : Value) (ns : List NR) (hna : NA [] e 0 ns) (h : TreeIn w nv ov ns (opn e 0)) => Program_any w nv ov ns (opn e 0) h (op_ok hna) (by have := hna.len; omega) (hna.small (fun _ h => by simp at h) (by omega)) (fun j n hj => by have := hna.back j n hj; simpa using this)
 unfold treeV at hpp
 have HPR : Hid _ := hpr
 have HPP : Hid _ := hpp
 clear hp hpr hpp
 obtain ⟨ans, hans⟩ : ∃ ans, ans = chkAns e := ⟨_, rfl⟩
 rw [← hans]
 have HANS : Hid _ := hans
 clear hans
 go_enter Tryz.func26, Tryz.ntmps26
 go_wp2_with fail
 refine (HPP.out _).mono ?_
 rintro _ w1 ⟨x1, n1, c1, x2, n2, c2, ns, rfl, hb, hT, hna⟩
 have hr := kept1 hb
 have hlt := blk_lt hr
 have HB : Hid _ := below1 hb
 have HR : Hid _ := hr
 have HNN : Hid _ := own_neH hT.nd hr (by decide)
 have HNO : Hid _ := own_neH hT.op hr (by decide)
 have hT1 := hT.below ((Below.refl _ w1).alloc (Nat.le_refl _) (.cells #[.slice x1 n1 c1, .slice x2 n2 c2] 62))
 have hpr := HPR.out (w1.alloc (.cells #[.slice x1 n1 c1, .slice x2 n2 c2] 62)) _ _ ns hna hT1
 rw [prog_ans hna, ← HANS.out] at hpr
 have HNA : Hid _ := hna
 unfold treeV at hpr
 clear hT hb hr HPP HPR hna
 go_wp2_with fail
 refine hpr.mono ?_
 rintro _ w2 ⟨rfl, hb2⟩
 have HT2 : Hid _ := hT1.below hb2
 have hk := kept1 hb2
 have k0 : w2.cell? ⟨w1.heap.size, 0, none⟩ = some (.slice x1 n1 c1) := by rw [blk_cell hk]; rfl
 have k1 : w2.cell? ⟨w1.heap.size, 1, none⟩ = some (.slice x2 n2 c2) := by rw [blk_cell hk]; rfl
 have hr2 : w2.heap[w.heap.size]? = some (.cells #[.slice none 0 0, .slice none 0 0] 62 (0, 0)) := by
  rw [hb2.block _ (by simp; omega)]; exact blk_alloc _ HR.out
 have r0 : w2.cell? ⟨w.heap.size, 0, none⟩ = some (.slice none 0 0) := by rw [blk_cell hr2]; rfl
 have r1 : w2.cell? ⟨w.heap.size, 1, none⟩ = some (.slice none 0 0) := by rw [blk_cell hr2]; rfl
 have f0 := blk_free hr2 0
 have f1 := blk_free hr2 1
 have hB2 : Below w.heap.size w w2 := HB.out.trans ((below1 hb2).mono HB.out.size)
 have HB2 : Hid _ := hB2
 have hne : w.heap.size ≠ w1.heap.size := by omega
 clear hk hr2 hb2 hB2 hpr hT1
 go_wp2
 refine bodyPost_ret (v := .tuple #[.agg #[.slice x1 n1 c1, .slice x2 n2 c2], .int .i64 ans.1, .int .i64 ans.2]) (by simp [results, Tryz.results26, go_sem, r0, r1]) rfl ⟨x1, n1, c1, x2, n2, c2, ns, rfl, ?_, ⟨owns_blk HT2.out.nd (fun k hk => by rw [blk_other _ _ (by simpa using HNN.out k hk), blk_other _ _ (by simpa using HNN.out k hk)]), owns_blk HT2.out.op (fun k hk => by rw [blk_other _ _ (by simpa using HNO.out k hk), blk_other _ _ (by simpa using HNO.out k hk)])⟩, HNA.out⟩
 exact (HB2.out.setCell (p := ⟨w.heap.size, 0, none⟩) (Nat.le_refl _) _).setCell (p := ⟨w.heap.size, 1, none⟩) (Nat.le_refl _) _
set_option maxRecDepth 100000 in
set_option maxHeartbeats 4000000 in
theorem leaseRun_ok (s : ByteArray) (fuel : Int) (w : World) (e : PT) (y : Nat) (S : ByteArray) (a b c d E : Int) (hrd : ∀ w, Calls Tryz.prog 26 #[.string s] w fun v w' => ∃ x1 n1 c1 x2 n2 c2 ns, v = .returned (.tuple #[treeV (.slice x1 n1 c1) (.slice x2 n2 c2), .int .i64 0, .int .i64 y]) ∧ Below w.heap.size w w' ∧ TreeIn w' (.slice x1 n1 c1) (.slice x2 n2 c2) ns (opn e 0) ∧ NA [] e 0 ns)
  (hrn : ∀ (w' : World) (x1 : Option Addr) (n1 c1 : Nat) (x2 : Option Addr) (n2 c2 : Nat) (ns : List NR), Below w.heap.size w w' → TreeIn w' (.slice x1 n1 c1) (.slice x2 n2 c2) ns (opn e 0) → NA [] e 0 ns → Calls Tryz.prog 28 #[treeV (.slice x1 n1 c1) (.slice x2 n2 c2), .int .i64 fuel] w' fun v w'' => v = .returned (.tuple #[.agg #[.string S, .int .i64 a, .int .i64 b, .int .i64 c, .int .i64 d], .int .i64 E]) ∧ Below w'.heap.size w' w'') :
  Calls Tryz.prog 13 #[.string s, .int .i64 fuel] w fun v w' => v = .returned (.tuple #[.agg #[.string S, .int .i64 a, .int .i64 b, .int .i64 c, .int .i64 d], .int .i64 E]) ∧ Below w.heap.size w w' := by
 unfold treeV at hrd hrn
 have HR : Hid _ := hrd
 have HN : Hid _ := hrn
 clear hrd hrn
 go_enter Tryz.func13, Tryz.ntmps13
 go_wp2_with fail
 refine (HR.out _).mono ?_
 rintro _ w1 ⟨x1, n1, c1, x2, n2, c2, ns, rfl, hb, hT, hna⟩
 have hq : w1.heap[w.heap.size]? = some (.cells #[.string ⟨#[]⟩, .int .i64 0, .int .i64 0, .int .i64 0, .int .i64 0] 35) := kept1 hb
 have hB := below1 hb
 obtain ⟨W2, hE2⟩ : ∃ W2, W2 = w1.alloc (.cells #[.slice x1 n1 c1, .slice x2 n2 c2] 62) := ⟨_, rfl⟩
 have hb2 : Below w1.heap.size w1 W2 := by rw [hE2]; exact below_al (Below.refl _ _) _
 have hrn2 := HN.out W2 x1 n1 c1 x2 n2 c2 ns (hB.trans (hb2.mono hB.size)) (hT.below hb2) hna
 have HRN : Hid _ := hrn2
 have HB2 : Hid _ := hB.trans (hb2.mono hB.size)
 have HQ2 : Hid (W2.heap[w.heap.size]? = some (.cells #[.string ⟨#[]⟩, .int .i64 0, .int .i64 0, .int .i64 0, .int .i64 0] 35)) := by
  show W2.heap[w.heap.size]? = _
  rw [hb2.block _ (blk_lt hq)]; exact hq
 clear hb hT hna hq hB hb2 hrn2 HR HN
 go_wp2_with fail
 rw [← hE2]
 refine Calls.mono HRN.out ?_
 rintro _ w3 ⟨rfl, hb3⟩
 have hq3 : w3.heap[w.heap.size]? = some (.cells #[.string ⟨#[]⟩, .int .i64 0, .int .i64 0, .int .i64 0, .int .i64 0] 35) := by rw [hb3.block _ (blk_lt HQ2.out)]; exact HQ2.out
 have HB3 : Hid _ := HB2.out.trans (hb3.mono HB2.out.size)
 clear hb3 HRN HB2 HQ2 hE2
 go_wp2_with (refine st_row rfl 35 (.tmp 4) (.tmp 22) rfl w.heap.size #[.string S, .int .i64 a, .int .i64 b, .int .i64 c, .int .i64 d] rfl rfl 35 _ hq3 Tryz.infoRes rfl (by simp [Value.oneCell']) ?_; intro W hW hWs hWo hW1 hW2 hW3)
 obtain ⟨s0, s1, s2, s3, s4⟩ := res_cells hW
 have HBN : Hid _ := below_new HB3.out (Nat.le_refl _) hWs hWo hW1 hW2 hW3
 clear hW hWs hWo hW1 hW2 hW3 HB3 hq3
 go_wp2
 refine bodyPost_ret (v := .tuple #[.agg #[.string S, .int .i64 a, .int .i64 b, .int .i64 c, .int .i64 d], .int .i64 E]) (by simp [results, Tryz.results13, go_sem, s0, s1, s2, s3, s4]) rfl ⟨rfl, HBN.out⟩
mutual
theorem NA.forms : ∀ {scope : Sc} {t : PT} {base : Nat} {ns : List NR} {r : Int}, NA scope t base ns → t.allr r → ∀ n ∈ ns, n.form ≠ 12
 | _, .num p s, _, _, _, h, _, n, hn => by simp only [NA] at h; subst h; rw [List.mem_singleton] at hn; subst hn; simp
 | _, .name p s, _, _, _, h, _, n, hn => by simp only [NA] at h; subst h; rw [List.mem_singleton] at hn; subst hn; simp
 | _, .node p k nm rg kids, _, _, _, h, h3, n, hn => by
  simp only [NA] at h
  obtain ⟨ks, beh, hk, rfl⟩ := h
  simp only [PT.allr] at h3
  rcases List.mem_append.1 hn with hn | hn
  ·exact hk.forms h3.2.2 n hn
  ·rw [List.mem_singleton] at hn; subst hn; simp only; have := h3.1; cases k <;> first | decide | exact absurd rfl this
theorem NAs.forms : ∀ {scope : Sc} {nm : List UInt8} {ts : List PT} {bs : List Bool} {base : Nat} {ns : List NR} {r : Int}, NAs scope nm ts bs base ns → allrL r ts → ∀ n ∈ ns, n.form ≠ 12
 | _, _, [], _, _, _, _, h, _, n, hn => by simp only [NAs] at h; rw [h.2] at hn; simp at hn
 | _, _, _ :: _, [], _, _, _, h, _, n, hn => by simp [NAs] at h
 | _, _, t :: r, b :: bs, _, _, _, h, h3, n, hn => by
  simp only [NAs] at h
  obtain ⟨a, c, h1, h2, rfl⟩ := h
  simp only [allrL] at h3
  rcases List.mem_append.1 hn with hn | hn
  ·exact h1.forms h3.1 n hn
  ·exact h2.forms h3.2 n hn
end
mutual
theorem rgdO_of : ∀ t : PT, t.tame → t.rg3 → t.rgd
 | .num _ _, h, _ => by simp only [PT.tame] at h; simp only [PT.rgd]; exact h
 | .name _ _, _, _ => by simp [PT.rgd]
 | .node _ _ _ _ kids, h, h3 => by
  simp only [PT.tame] at h
  simp only [PT.rg3] at h3
  simp only [PT.rgd]
  exact ⟨by omega, rgdOL_of kids h.2 h3.2⟩
theorem rgdOL_of : ∀ ts : List PT, tameL ts → rg3L ts → rgdL ts
 | [], _, _ => by simp [rgdL]
 | t :: r, h, h3 => by
  simp only [tameL] at h
  simp only [rg3L] at h3
  simp only [rgdL]
  exact ⟨rgdO_of t h.1 h3.1, rgdOL_of r h.2 h3.2⟩
end
theorem newsK_none : ∀ (l acc : List NR), (∀ n ∈ l, n.form ≠ 12) → newsK l acc = (acc, 0, 0)
 | [], _, _ => rfl
 | n :: r, acc, h => by
  simp only [newsK]
  rw [if_neg (h n (by simp))]
  exact newsK_none r acc (fun m hm => h m (by simp [hm]))
end Go.Proofs.YtpicaknklgccoabGreatDoor
namespace Go.Proofs.YtpicaknklgccoabGreatDoor
theorem fin_fault (m : MM) : m.fin.fault = m.fault ∧ m.fin.steps = m.steps ∧ m.fin.cells = m.cells ∧ m.fin.named = m.named ∧ m.fin.regs.length = m.regs.length - 1 := by
 unfold MM.fin
 cases h : m.regs.getLast? with
 | none =>
  have : m.regs = [] := by simpa using h
  rw [this]; exact ⟨rfl, rfl, rfl, rfl, rfl⟩
 | some r => simp
theorem newCell_fault (m : MM) (k : Int) (v u : MV) : (m.newCell k v u).2.fault = m.fault := by unfold MM.newCell; split <;> rfl
theorem cntL_split (ts : List PT) (j : Nat) (hj : j < ts.length) : cntL (ts.take j) + ts[j].cnt ≤ cntL ts := by
 have h := cntL_take ts (j + 1)
 rw [List.take_succ_eq_append_getElem hj, cntL_snoc] at h
 exact h
theorem take_zero_cnt (ts : List PT) : cntL (ts.take 0) = 0 := by simp [cntL]
mutual
theorem lab (cls : List Nat) (hc : ∀ x ∈ cls, x < 1000) : ∀ (t : PT) (scope : Sc) (ns : List NR) (env : TEnv) (st : TSt) (T : List Ty) (id site : Nat), NA scope t T.length ns → envL T env scope → envOk env st → clsIn cls t.prl site → id + t.cnt ≤ st.of.length → (tyFind cls t id site env st).2.e = 0 →
  ∃ T', Lab T t.cnt ns T' st.of (tyFind cls t id site env st).2.of id (t.subs id site) ∧ T'[t.cnt - 1]? = some (tyFind cls t id site env st).1 ∧ (tyFind cls t id site env st).2.of[id]? = some (tyFind cls t id site env st).1.txt
 | .num p s, scope, ns, env, st, T, id, site, hn, hr, ho, hcl, hid, he => by
  simp only [NA] at hn
  subst hn
  simp only [PT.cnt] at hid
  simp only [tyFind] at he ⊢
  obtain ⟨f1, f2, f3⟩ := fin_of id p (Ty.n, st)
  rw [f1, f2]
  refine ⟨[.n], ?_, rfl, List.getElem?_set_self (show id < st.of.length by omega)⟩
  have := Lab.root (Lab.nil T st.of (id + 1)) ⟨1, p, p + s.length, valueL s, [], 0, -1, -1, -1, -1⟩ .n (.num p s, id, site) (by simp [tyR]) fit_n (by simp) (by omega) rfl (fun TY _ => by simp [vfT, vStep])
  exact this
 | .name p s, scope, ns, env, st, T, id, site, hn, hr, ho, hcl, hid, he => by
  simp only [NA] at hn
  subst hn
  have hres := tyFind_ok cls hc (.name p s) id site env st ho
  simp only [PT.cnt] at hid
  simp only [tyFind] at he hres ⊢
  rcases hr.look s with ⟨h1, h2⟩ | ⟨t, h1, h2, h3⟩
  ·rw [h1] at he
   simp only at he
   obtain ⟨_, _, f3⟩ := fin_of id p (Ty.n, errS st 4 p)
   have := (f3 he).1
   unfold errS at this
   split at this
   ·simp at this
   ·rename_i hh; exact absurd this hh
  ·rw [h1] at he hres ⊢
   simp only at he hres ⊢
   obtain ⟨f1, f2, f3⟩ := fin_of id p (t, st)
   have hfit := hres.1
   rw [f1] at hfit
   rw [f1, f2]
   refine ⟨[t], ?_, rfl, List.getElem?_set_self (show id < st.of.length by omega)⟩
   have := Lab.root (Lab.nil T st.of (id + 1)) ⟨2, p, p + s.length, 0, s, 0, findS scope s, -1, -1, -1⟩ t (.name p s, id, site) (by simp [tyR, h3]) hfit (by simp) (by omega) rfl (fun TY _ => by simp [vfT, vStep])
   exact this
 | .node p k nm rg kids, scope, ns, env, st, T, id, site, hn, hr, ho, hcl, hid, he => by
  simp only [NA] at hn
  obtain ⟨ks, beh, hks, rfl⟩ := hn
  have hb := hks.bods
  have hres := tyFind_ok cls hc (.node p k nm rg kids) id site env st ho
  simp only [PT.cnt] at hid
  simp only [PT.prl] at hcl
  have hlen : (tyB cls nm kids (bodK k) (id + 1) (site + if k = .pair then 1 else 0) env .n st).1.length = (bodK k).length := tyB_len cls nm kids (bodK k) _ _ _ _ _ hb
  have hcr : clsIn cls (prlL kids) (site + if k = .pair then 1 else 0) := by
   have := hcl.right
   by_cases hk : k = .pair
   ·simpa [hk] using this
   ·simpa [hk] using this
  have hK := labs cls hc nm kids (bodK k) scope ks env .n st T (id + 1) (site + if k = .pair then 1 else 0) hks hr ho fit_n (by simp [Ty.size]) (fun e => by revert e; cases k <;> simp [bodK]) hcr (by omega)
  rw [node_tyB cls p k nm rg kids id site env .n st hb] at he hres ⊢
  generalize tyB cls nm kids (bodK k) (id + 1) (site + if k = .pair then 1 else 0) env .n st = x at hK hlen he hres ⊢
  have e0 : x.2.e = 0 := by
   have := ((fin_of id p _).2.2 he).1
   by_cases hh : x.2.e ≠ 0 ∧ k ≠ .let_
   ·rw [if_pos hh] at this; exact this
   ·rw [if_neg hh] at this
    by_cases hk : k = .let_
    ·subst hk; simpa [nodeT2] using this
    ·exact Classical.byContradiction fun h => hh ⟨h, hk⟩
  have hcond : ¬ (x.2.e ≠ 0 ∧ k ≠ .let_) := fun h => h.1 e0
  rw [if_neg hcond] at he hres ⊢
  obtain ⟨T', hL, hP⟩ := hK e0
  obtain ⟨f1, f2, f3⟩ := fin_of id p (nodeT2 cls k p site x.1 x.2)
  obtain ⟨g1, g2⟩ := f3 he
  obtain ⟨m1, m2, m3, m4⟩ := made_lab cls k p site id nm rg kids x.1 x.2 (T ++ T') beh (by rw [hb]) hlen e0 (fun hk => by
   subst hk
   have := hcl 0 (p, rg) (by simp)
   simpa using this) T.length (fun j t ht => by obtain ⟨i, i1, i2, _⟩ := hP j t ht; exact ⟨i, i1, i2⟩) g1 g2
  have hfit := hres.1
  rw [f1] at hfit
  rw [f1, f2, m1]
  have hol : id < x.2.of.length := by rw [hL.ofl]; omega
  refine ⟨T' ++ [(nodeT2 cls k p site x.1 x.2).1], ?_, ?_, by rw [List.getElem?_set_self hol]⟩
  ·have := Lab.root hL _ _ (.node p k nm rg kids, id, site) m2 hfit m3 (by omega) rfl (fun TY hT => m4 TY _ (fun j t ht => by
    obtain ⟨i, _, _, i3⟩ := hP j t ht
    have hj : j < kids.length := by rw [← hb, ← hlen]; exact (List.getElem?_eq_some_iff.1 ht).1
    have hcj : cntL (kids.take j) < cntL kids := by
     have h1 := cntL_split kids j hj
     have h2 := cnt_pos kids[j]
     omega
    have := hT (id + 1 + cntL (kids.take j)) (by omega) (by omega)
    rw [i3] at this
    exact (txt_inj (Option.some.inj this)).symm))
   simpa [PT.cnt, PT.subs] using this
  ·have hl := hL.len
   rw [List.getElem?_append_right (by simp [PT.cnt]; omega)]
   simp [PT.cnt, hl]
theorem labs (cls : List Nat) (hc : ∀ x ∈ cls, x < 1000) (nm : List UInt8) : ∀ (ts : List PT) (bs : List Bool) (scope : Sc) (ns : List NR) (env : TEnv) (prev : Ty) (st : TSt) (T : List Ty) (id site : Nat), NAs scope nm ts bs T.length ns → envL T env scope → envOk env st → prev.fit → prev.size ≤ 63 → (bs.head? = some true → 0 < T.length ∧ T[T.length - 1]? = some prev) →
  clsIn cls (prlL ts) site → id + cntL ts ≤ st.of.length → (tyB cls nm ts bs id site env prev st).2.e = 0 →
  ∃ T', Lab T (cntL ts) ns T' st.of (tyB cls nm ts bs id site env prev st).2.of id (subsL ts id site) ∧ ∀ (j : Nat) (t : Ty), (tyB cls nm ts bs id site env prev st).1[j]? = some t → ∃ i : Nat, (partsL ts T.length).getD j (-1) = (i : Int) ∧ (T ++ T')[i]? = some t ∧ (tyB cls nm ts bs id site env prev st).2.of[id + cntL (ts.take j)]? = some t.txt
 | [], bs, scope, ns, env, prev, st, T, id, site, hn, _, _, _, _, _, _, _, _ => by
  simp only [NAs] at hn
  obtain ⟨rfl, rfl⟩ := hn
  simp only [tyB, cntL, subsL]
  exact ⟨[], Lab.nil _ _ _, fun j t h => by simp at h⟩
 | _ :: _, [], _, _, _, _, _, _, _, _, hn, _, _, _, _, _, _, _, _ => by simp [NAs] at hn
 | a :: r, b :: bs, scope, ns, env, prev, st, T, id, site, hn, hr, ho, hp1, hp2, hp3, hcl, hid, he => by
  simp only [NAs] at hn
  obtain ⟨na, nc, h1, h2, rfl⟩ := hn
  have hr' : envL T (if b then env ++ [(nm, prev)] else env) (if b then scope ++ [(nm, (T.length : Int) - 1)] else scope) := by
   cases b with
   | false => exact hr
   | true =>
    obtain ⟨hT0, hT1⟩ := hp3 rfl
    refine hr.app ⟨rfl, ?_, ?_, trivial⟩
    ·show (0 : Int) ≤ (T.length : Int) - 1; omega
    ·show T[((T.length : Int) - 1).toNat]? = _
     rw [show ((T.length : Int) - 1).toNat = T.length - 1 from by omega]; exact hT1
  have ho' : envOk (if b then env ++ [(nm, prev)] else env) st := by
   cases b with
   | false => exact ho
   | true =>
    constructor
    ·intro x hx
     rcases List.mem_append.1 hx with hx | hx
     ·exact ho.1 x hx
     ·rw [List.mem_singleton] at hx; subst hx; exact hp1
    ·intro e0 x hx
     rcases List.mem_append.1 hx with hx | hx
     ·exact ho.2 e0 x hx
     ·rw [List.mem_singleton] at hx; subst hx; exact hp2
  simp only [cntL] at hid
  simp only [prlL] at hcl
  have hA := lab cls hc a (if b then scope ++ [(nm, (T.length : Int) - 1)] else scope) na (if b then env ++ [(nm, prev)] else env) st T id site h1 hr' ho' hcl.left (by omega)
  have hR := tyFind_ok cls hc a id site (if b then env ++ [(nm, prev)] else env) st ho'
  simp only [tyB] at he ⊢
  generalize tyFind cls a id site (if b then env ++ [(nm, prev)] else env) st = x at hA hR he ⊢
  have e0 : x.2.e = 0 := Classical.byContradiction fun h => by
   have hs := tyB_stay cls nm r bs (id + a.cnt) (site + a.prs) env x.1 x.2 h
   rw [hs.1] at he
   exact h he
  obtain ⟨T1, hL, hT1, hof⟩ := hA e0
  have hl1 : (T ++ T1).length = T.length + a.cnt := by simp [hL.len]
  have hcp := cnt_pos a
  have hst0 : st.e = 0 := (hR.2.1 e0).1
  have hlast : (T ++ T1)[T.length + a.cnt - 1]? = some x.1 := by
   rw [List.getElem?_append_right (by omega), show T.length + a.cnt - 1 - T.length = a.cnt - 1 from by omega]; exact hT1
  have hB := labs cls hc nm r bs scope nc env x.1 x.2 (T ++ T1) (id + a.cnt) (site + a.prs) (by rw [hl1]; exact h2) hr.more (ho.on (fun _ => hst0)) hR.1 (hR.2.1 e0).2 (fun _ => ⟨by omega, by rw [hl1]; exact hlast⟩) (by have := hcl.right; rwa [prl_len] at this) (by rw [hL.ofl]; omega)
  generalize tyB cls nm r bs (id + a.cnt) (site + a.prs) env x.1 x.2 = y at hB he ⊢
  obtain ⟨T2, hM, hP2⟩ := hB he
  refine ⟨T1 ++ T2, ?_, ?_⟩
  ·simp only [cntL, subsL]
   exact hL.app hM
  ·intro j t hj
   cases j with
   | zero =>
    simp only [List.getElem?_cons_zero, Option.some.injEq] at hj
    subst hj
    refine ⟨T.length + a.cnt - 1, ?_, ?_, ?_⟩
    ·simp only [partsL, List.getD_cons_zero]; omega
    ·rw [← List.append_assoc, List.getElem?_append_left (by omega)]; exact hlast
    ·rw [take_zero_cnt, Nat.add_zero, hM.out id (by omega)]; exact hof
   | succ j =>
    simp only [List.getElem?_cons_succ] at hj
    obtain ⟨i, i1, i2, i3⟩ := hP2 j t hj
    rw [hl1] at i1
    refine ⟨i, ?_, by rw [← List.append_assoc]; exact i2, ?_⟩
    ·simp only [partsL, List.getD_cons_succ]; exact i1
    ·simp only [List.take_succ_cons, cntL]
     rw [← Nat.add_assoc]; exact i3
end
theorem lab_root (e : PT) (ns : List NR) (hna : NA [] e 0 ns) (h3 : e.rg3) (he : (tyFind (clsOf e) e 0 0 [] (st0 e)).2.e = 0) :
  SzOk [] ns ∧ ∃ TY : List Ty, TY.length = e.cnt ∧ (∀ T ∈ TY, T.fit) ∧ (tyFind (clsOf e) e 0 0 [] (st0 e)).2.of = TY.map Ty.txt ∧ plT [] ns = vetL TY (e.subs 0 0) := by
 have hl0 : (st0 e).of.length = e.cnt := by simp [st0]
 obtain ⟨T', hL, _, _⟩ := lab (clsOf e) (clsOf_lt h3) e [] ns [] (st0 e) [] 0 0 hna trivial ⟨fun x hx => by simp at hx, fun _ x hx => by simp at hx⟩ (fun i x hx => by
  rw [Nat.zero_add]
  unfold clsOf
  rw [List.getD_eq_getElem?_getD, List.getElem?_map, hx]; rfl) (by omega) he
 refine ⟨hL.sz, ?_⟩
 generalize (tyFind (clsOf e) e 0 0 [] (st0 e)).2.of = of at hL
 have hch : ∀ k : Nat, ∃ U : Ty, U.fit ∧ (k < e.cnt → of[k]? = some U.txt) := by
  intro k
  by_cases hk : k < e.cnt
  ·obtain ⟨U, u1, u2⟩ := hL.inn k (Nat.zero_le _) (by omega)
   exact ⟨U, u1, fun _ => u2⟩
  ·exact ⟨.n, fit_n, fun h => absurd h hk⟩
 have hof : of.length = e.cnt := by rw [hL.ofl, hl0]
 let f : Nat → Ty := fun k => Classical.choose (hch k)
 have hf : ∀ k, (f k).fit ∧ (k < e.cnt → of[k]? = some (f k).txt) := fun k => Classical.choose_spec (hch k)
 have hat : ∀ k, k < e.cnt → tyAt ((List.range e.cnt).map f) k = f k := by
  intro k hk
  unfold tyAt
  rw [List.getElem?_map, List.getElem?_range hk]; rfl
 refine ⟨(List.range e.cnt).map f, by simp, ?_, ?_, ?_⟩
 ·intro T hT
  obtain ⟨k, _, rfl⟩ := List.mem_map.1 hT
  exact (hf k).1
 ·apply List.ext_getElem?
  intro k
  by_cases hk : k < e.cnt
  ·rw [(hf k).2 hk, List.getElem?_map, List.getElem?_map, List.getElem?_range hk]; rfl
  ·rw [List.getElem?_eq_none (by omega), List.getElem?_eq_none (by simp; omega)]
 ·refine hL.pl _ (fun k _ h2 => ?_)
  rw [Nat.zero_add] at h2
  rw [hat k h2]; exact (hf k).2 h2
end Go.Proofs.YtpicaknklgccoabGreatDoor
namespace Go.Proofs.YtpicaknklgccoabGreatDoor
open Go.RowKit
mutual
theorem NA.rgn : ∀ {scope : Sc} {t : PT} {base : Nat} {ns : List NR}, NA scope t base ns → t.rg3 → ∀ n ∈ ns, 0 ≤ n.region
 | _, .num p s, _, _, h, _, n, hn => by simp only [NA] at h; subst h; rw [List.mem_singleton] at hn; subst hn; exact Int.le_refl _
 | _, .name p s, _, _, h, _, n, hn => by simp only [NA] at h; subst h; rw [List.mem_singleton] at hn; subst hn; exact Int.le_refl _
 | _, .node p k nm rg kids, _, _, h, h3, n, hn => by
  simp only [NA] at h
  obtain ⟨ks, beh, hk, rfl⟩ := h
  simp only [PT.rg3] at h3
  rcases List.mem_append.1 hn with hn | hn
  ·exact hk.rgn h3.2 n hn
  ·rw [List.mem_singleton] at hn; subst hn; simp only; omega
theorem NAs.rgn : ∀ {scope : Sc} {nm : List UInt8} {ts : List PT} {bs : List Bool} {base : Nat} {ns : List NR}, NAs scope nm ts bs base ns → rg3L ts → ∀ n ∈ ns, 0 ≤ n.region
 | _, _, [], _, _, _, h, _, n, hn => by simp only [NAs] at h; rw [h.2] at hn; simp at hn
 | _, _, _ :: _, [], _, _, h, _, n, hn => by simp [NAs] at h
 | _, _, t :: r, b :: bs, _, _, h, h3, n, hn => by
  simp only [NAs] at h
  obtain ⟨a, c, h1, h2, rfl⟩ := h
  simp only [rg3L] at h3
  rcases List.mem_append.1 hn with hn | hn
  ·exact h1.rgn h3.1 n hn
  ·exact h2.rgn h3.2 n hn
end
theorem cls_ansV (e : PT) (hm : e.prs ≤ 100) : (tyFind (clsOf e) e 0 0 [] (st0 e)).2.e = (chkAns e).1 ∧ (tyFind (clsOf e) e 0 0 [] (st0 e)).2.at_ = (chkAns e).2 := by
 have h := (tyFind_cls (clsOf e) (List.range e.prs) e 0 0 0 0 [] [] (st0 e) (st0 e) rfl ⟨rfl, rfl⟩).2
 unfold chkAns
 rw [if_neg (by omega)]
 exact h
end Go.Proofs.YtpicaknklgccoabGreatDoor
namespace Go.Proofs.YtpicaknklgccoabGreatDoor
structure Fu {α : Type} (F' : Nat) (st : ESt) (x x' : α × ESt) : Prop where
 up1 : st.steps ≤ x.2.steps
 up2 : st.e ≠ 0 → x.2.e ≠ 0
 eq : x.2.e = 0 → x.2.steps ≤ F' → x' = x
theorem Fu.same {α : Type} {F' : Nat} {st : ESt} {v : α} : Fu F' st (v, st) (v, st) := ⟨Nat.le_refl _, id, fun _ _ => rfl⟩
theorem made_e (k : Kw) (vs : List Vl) (st : ESt) : (madeV k vs st).2.e = st.e ∧ (madeV k vs st).2.steps = st.steps := by
 unfold madeV; split <;> exact ⟨rfl, rfl⟩
theorem begun_fu {F F' : Nat} {st : ESt} {f f' : ESt → Vl × ESt} (h : ∀ st, Fu F' st (f st) (f' st)) : Fu F' st (begun F st f) (begun F' st f') := by
 unfold begun
 by_cases he : st.e ≠ 0
 ·rw [if_pos he, if_pos he]; exact .same
 ·rw [if_neg he, if_neg he]
  by_cases hs : st.steps = F
  ·rw [if_pos hs]
   exact ⟨Nat.le_refl _, fun h => absurd h he, fun h => by cases h⟩
  ·rw [if_neg hs]
   have H := h { st with steps := st.steps + 1 }
   have u1 := H.up1
   simp only at u1
   refine ⟨by omega, fun h => absurd h he, fun h0 h1 => ?_⟩
   rw [if_neg (by omega)]
   exact H.eq h0 h1
theorem turns_fu {F' : Nat} {f f' : Vl → ESt → Vl × ESt} (h : ∀ v st, Fu F' st (f v st) (f' v st)) : ∀ (k : Nat) (v : Vl) (st : ESt), Fu F' st (turns f k v st) (turns f' k v st)
 | 0, _, _ => .same
 | k + 1, v, st => by
  simp only [turns]
  by_cases he : st.e ≠ 0
  ·rw [if_pos he, if_pos he]; exact .same
  ·rw [if_neg he, if_neg he]
   have A := h v st
   have B := turns_fu h k (f v st).1 (f v st).2
   refine ⟨Nat.le_trans A.up1 B.up1, fun h => absurd h he, fun h0 h1 => ?_⟩
   have ha : (f v st).2.e = 0 := Decidable.byContradiction fun hn => B.up2 hn h0
   rw [A.eq ha (Nat.le_trans B.up1 h1)]
   exact B.eq h0 h1
mutual
theorem ev_fu (F F' : Nat) : ∀ (t : PT) (env : VEnv) (st : ESt), Fu F' st (ev F t env st) (ev F' t env st)
 | .num _ s, env, st => by unfold ev; exact begun_fu (fun _ => .same)
 | .name _ s, env, st => by unfold ev; exact begun_fu (fun _ => .same)
 | .node _ k nm _ kids, env, st => by
  unfold ev
  refine begun_fu (fun st => ?_)
  by_cases h1 : k = .let_
  ·simp only [if_pos h1]; exact evLet_fu F F' nm kids env st
  ·by_cases h2 : k = .if_
   ·simp only [if_neg h1, if_pos h2]; exact evIf_fu F F' kids env st
   ·by_cases h3 : k = .loop
    ·simp only [if_neg h1, if_neg h2, if_pos h3]; exact evLoop_fu F F' nm kids env st
    ·simp only [if_neg h1, if_neg h2, if_neg h3]
     have K := evKids_fu F F' kids env st
     generalize evKids F kids env st = x at K ⊢
     generalize evKids F' kids env st = x' at K ⊢
     by_cases he : x.2.e ≠ 0
     ·rw [if_pos he]
      exact ⟨K.up1, K.up2, fun h => absurd h he⟩
     ·rw [if_neg he]
      obtain ⟨m1, m2⟩ := made_e k x.1 x.2
      refine ⟨by rw [m2]; exact K.up1, fun h => by rw [m1]; exact K.up2 h, fun h0 h5 => ?_⟩
      rw [m1] at h0
      rw [m2] at h5
      rw [K.eq h0 h5, if_neg he]
theorem evKids_fu (F F' : Nat) : ∀ (ts : List PT) (env : VEnv) (st : ESt), Fu F' st (evKids F ts env st) (evKids F' ts env st)
 | [], _, st => by simp only [evKids]; exact .same
 | a :: r, env, st => by
  simp only [evKids]
  have A := ev_fu F F' a env st
  have B := evKids_fu F F' r env (ev F a env st).2
  refine ⟨Nat.le_trans A.up1 B.up1, fun h => B.up2 (A.up2 h), fun h0 h1 => ?_⟩
  have ha : (ev F a env st).2.e = 0 := Decidable.byContradiction fun hn => B.up2 hn h0
  rw [A.eq ha (Nat.le_trans B.up1 h1), B.eq h0 h1]
theorem evLet_fu (F F' : Nat) (nm : List UInt8) : ∀ (ts : List PT) (env : VEnv) (st : ESt), Fu F' st (evLet F nm ts env st) (evLet F' nm ts env st)
 | [], _, _ => .same
 | [_], _, _ => .same
 | [a, b], env, st => by
  simp only [evLet]
  have A := ev_fu F F' a env st
  have B := ev_fu F F' b (env ++ [(nm, (ev F a env st).1)]) (ev F a env st).2
  refine ⟨Nat.le_trans A.up1 B.up1, fun h => B.up2 (A.up2 h), fun h0 h1 => ?_⟩
  have ha : (ev F a env st).2.e = 0 := Decidable.byContradiction fun hn => B.up2 hn h0
  rw [A.eq ha (Nat.le_trans B.up1 h1), B.eq h0 h1]
 | _ :: _ :: _ :: _, _, _ => .same
theorem evIf_fu (F F' : Nat) : ∀ (ts : List PT) (env : VEnv) (st : ESt), Fu F' st (evIf F ts env st) (evIf F' ts env st)
 | [], _, _ => .same
 | [_], _, _ => .same
 | [_, _], _, _ => .same
 | [a, b, c], env, st => by
  simp only [evIf]
  have A := ev_fu F F' a env st
  by_cases hv : (ev F a env st).1.num ≠ 0
  ·have B := ev_fu F F' b env (ev F a env st).2
   rw [if_pos hv]
   refine ⟨Nat.le_trans A.up1 B.up1, fun h => B.up2 (A.up2 h), fun h0 h1 => ?_⟩
   have ha : (ev F a env st).2.e = 0 := Decidable.byContradiction fun hn => B.up2 hn h0
   rw [A.eq ha (Nat.le_trans B.up1 h1), if_pos hv, B.eq h0 h1]
  ·have B := ev_fu F F' c env (ev F a env st).2
   rw [if_neg hv]
   refine ⟨Nat.le_trans A.up1 B.up1, fun h => B.up2 (A.up2 h), fun h0 h1 => ?_⟩
   have ha : (ev F a env st).2.e = 0 := Decidable.byContradiction fun hn => B.up2 hn h0
   rw [A.eq ha (Nat.le_trans B.up1 h1), if_neg hv, B.eq h0 h1]
 | _ :: _ :: _ :: _ :: _, _, _ => .same
theorem evLoop_fu (F F' : Nat) (nm : List UInt8) : ∀ (ts : List PT) (env : VEnv) (st : ESt), Fu F' st (evLoop F nm ts env st) (evLoop F' nm ts env st)
 | [], _, _ => .same
 | [_], _, _ => .same
 | [_, _], _, _ => .same
 | [a, b, c], env, st => by
  simp only [evLoop]
  have A := ev_fu F F' a env st
  have B := ev_fu F F' b env (ev F a env st).2
  have C := turns_fu (F' := F') (f := fun v st => ev F c (env ++ [(nm, v)]) st) (f' := fun v st => ev F' c (env ++ [(nm, v)]) st) (fun v st => ev_fu F F' c _ st) (ev F a env st).1.num (ev F b env (ev F a env st).2).1 (ev F b env (ev F a env st).2).2
  refine ⟨Nat.le_trans A.up1 (Nat.le_trans B.up1 C.up1), fun h => C.up2 (B.up2 (A.up2 h)), fun h0 h1 => ?_⟩
  have hb : (ev F b env (ev F a env st).2).2.e = 0 := Decidable.byContradiction fun hn => C.up2 hn h0
  have ha : (ev F a env st).2.e = 0 := Decidable.byContradiction fun hn => B.up2 hn hb
  rw [A.eq ha (Nat.le_trans B.up1 (Nat.le_trans C.up1 h1)), B.eq hb (Nat.le_trans C.up1 h1), C.eq h0 h1]
 | _ :: _ :: _ :: _ :: _, _, _ => .same
end
def sh (k : Nat) (st : ESt) : ESt := { st with steps := st.steps + k }
def shx {α : Type} (k : Nat) (x : α × ESt) : α × ESt := (x.1, sh k x.2)
theorem begun_sh {F k : Nat} {st : ESt} {f f' : ESt → Vl × ESt} (h : ∀ st, f' (sh k st) = shx k (f st)) : begun (F + k) (sh k st) f' = shx k (begun F st f) := by
 unfold begun
 by_cases he : st.e ≠ 0
 ·rw [if_pos (show (sh k st).e ≠ 0 from he), if_pos he]; rfl
 ·rw [if_neg (show ¬ (sh k st).e ≠ 0 from he), if_neg he]
  by_cases hs : st.steps = F
  ·rw [if_pos (show (sh k st).steps = F + k by simp only [sh]; omega), if_pos hs]; rfl
  ·rw [if_neg (show ¬ (sh k st).steps = F + k by simp only [sh]; omega), if_neg hs, ← h]
   congr 1
   simp only [sh, ESt.mk.injEq, and_true]
   omega
theorem turns_sh {k : Nat} {f f' : Vl → ESt → Vl × ESt} (h : ∀ v st, f' v (sh k st) = shx k (f v st)) : ∀ (j : Nat) (v : Vl) (st : ESt), turns f' j v (sh k st) = shx k (turns f j v st)
 | 0, _, _ => rfl
 | j + 1, v, st => by
  simp only [turns]
  by_cases he : st.e ≠ 0
  ·rw [if_pos (show (sh k st).e ≠ 0 from he), if_pos he]; rfl
  ·rw [if_neg (show ¬ (sh k st).e ≠ 0 from he), if_neg he, h v st]
   exact turns_sh h j _ _
theorem made_sh (k : Nat) (w : Kw) (vs : List Vl) (st : ESt) : madeV w vs (sh k st) = shx k (madeV w vs st) := by
 unfold madeV; split <;> rfl
mutual
theorem ev_sh (F k : Nat) : ∀ (t : PT) (env : VEnv) (st : ESt), ev (F + k) t env (sh k st) = shx k (ev F t env st)
 | .num _ s, env, st => by unfold ev; exact begun_sh (fun _ => rfl)
 | .name _ s, env, st => by unfold ev; exact begun_sh (fun _ => rfl)
 | .node _ w nm _ kids, env, st => by
  unfold ev
  refine begun_sh (fun st => ?_)
  by_cases h1 : w = .let_
  ·simp only [if_pos h1]; exact evLet_sh F k nm kids env st
  ·by_cases h2 : w = .if_
   ·simp only [if_neg h1, if_pos h2]; exact evIf_sh F k kids env st
   ·by_cases h3 : w = .loop
    ·simp only [if_neg h1, if_neg h2, if_pos h3]; exact evLoop_sh F k nm kids env st
    ·simp only [if_neg h1, if_neg h2, if_neg h3]
     rw [evKids_sh F k kids env st]
     by_cases he : (evKids F kids env st).2.e ≠ 0
     ·rw [if_pos (show (shx k (evKids F kids env st)).2.e ≠ 0 from he), if_pos he]; rfl
     ·rw [if_neg (show ¬ (shx k (evKids F kids env st)).2.e ≠ 0 from he), if_neg he]
      exact made_sh k w _ _
theorem evKids_sh (F k : Nat) : ∀ (ts : List PT) (env : VEnv) (st : ESt), evKids (F + k) ts env (sh k st) = shx k (evKids F ts env st)
 | [], _, st => rfl
 | a :: r, env, st => by
  simp only [evKids]
  rw [ev_sh F k a env st]
  simp only [shx]
  rw [evKids_sh F k r env]
  rfl
theorem evLet_sh (F k : Nat) (nm : List UInt8) : ∀ (ts : List PT) (env : VEnv) (st : ESt), evLet (F + k) nm ts env (sh k st) = shx k (evLet F nm ts env st)
 | [], _, _ => rfl
 | [_], _, _ => rfl
 | [a, b], env, st => by
  simp only [evLet]
  rw [ev_sh F k a env st]
  exact ev_sh F k b _ _
 | _ :: _ :: _ :: _, _, _ => rfl
theorem evIf_sh (F k : Nat) : ∀ (ts : List PT) (env : VEnv) (st : ESt), evIf (F + k) ts env (sh k st) = shx k (evIf F ts env st)
 | [], _, _ => rfl
 | [_], _, _ => rfl
 | [_, _], _, _ => rfl
 | [a, b, c], env, st => by
  simp only [evIf]
  rw [ev_sh F k a env st]
  by_cases hv : (ev F a env st).1.num ≠ 0
  ·rw [if_pos (show (shx k (ev F a env st)).1.num ≠ 0 from hv), if_pos hv]; exact ev_sh F k b _ _
  ·rw [if_neg (show ¬ (shx k (ev F a env st)).1.num ≠ 0 from hv), if_neg hv]; exact ev_sh F k c _ _
 | _ :: _ :: _ :: _ :: _, _, _ => rfl
theorem evLoop_sh (F k : Nat) (nm : List UInt8) : ∀ (ts : List PT) (env : VEnv) (st : ESt), evLoop (F + k) nm ts env (sh k st) = shx k (evLoop F nm ts env st)
 | [], _, _ => rfl
 | [_], _, _ => rfl
 | [_, _], _, _ => rfl
 | [a, b, c], env, st => by
  simp only [evLoop]
  rw [ev_sh F k a env st]
  simp only [shx]
  rw [ev_sh F k b env]
  exact turns_sh (k := k) (f := fun v st => ev F c (env ++ [(nm, v)]) st) (f' := fun v st => ev (F + k) c (env ++ [(nm, v)]) st) (fun v st => ev_sh F k c _ st) _ _ _
 | _ :: _ :: _ :: _ :: _, _, _ => rfl
end
def MM.ext (TL : List MR) (d : Nat) (m : MM) : MM := { m with regs := m.regs ++ TL, opened := m.opened + d }
structure Root1 (m : MM) : Prop where
 r : m.regs.length = 1
 c : ∀ c ∈ m.cells, c.home = 0
structure Ex (TL : List MR) (d : Nat) (x x' : MV × MM) : Prop where
 eq : x' = (x.1, x.2.ext TL d)
 r : Root1 x.2
theorem stop_extR (TL : List MR) (d : Nat) (m : MM) (f : Nat) : (m.ext TL d).stop f = (m.stop f).ext TL d := by
 unfold MM.stop
 by_cases h : m.fault = 0
 ·rw [if_pos (show (m.ext TL d).fault = 0 from h), if_pos h]; rfl
 ·rw [if_neg (show ¬ (m.ext TL d).fault = 0 from h), if_neg h]
theorem Root1.stop {m : MM} (h : Root1 m) (f : Nat) : Root1 (m.stop f) := by
 unfold MM.stop; split
 ·exact ⟨h.r, h.c⟩
 ·exact h
theorem Root1.name {m : MM} (h : Root1 m) (i : Int) (v : MV) : Root1 (m.name i v) := by
 unfold MM.name; split
 ·exact ⟨h.r, h.c⟩
 ·exact h
theorem name_extT (TL : List MR) (d : Nat) (m : MM) (i : Int) (v : MV) : (m.ext TL d).name i v = (m.name i v).ext TL d := by
 unfold MM.name
 by_cases h : 0 ≤ i ∧ i < m.named.length
 ·rw [if_pos (show 0 ≤ i ∧ i < (m.ext TL d).named.length from h), if_pos h]; rfl
 ·rw [if_neg (show ¬ (0 ≤ i ∧ i < (m.ext TL d).named.length) from h), if_neg h]
theorem home_extR {TL : List MR} {r : Int} (hT : ∀ x ∈ TL, x.num ≠ r) {l : List MR} (hl : l.length = 1) : ∀ i, homeF (l ++ TL) r i = 0
 | 0 => rfl
 | i + 1 => by
  simp only [homeF]
  rw [List.getElem?_append_right (by omega), hl, Nat.add_sub_cancel]
  cases hx : TL[i]? with
  | none => simp only [Option.map_none, reduceCtorEq, if_false]; exact home_extR hT hl i
  | some x =>
   have := hT x (List.mem_of_getElem? hx)
   simp only [Option.map_some, Option.some.injEq, this, if_false]
   exact home_extR hT hl i
theorem cell_extR {TL : List MR} {d : Nat} {r : Int} (hT : ∀ x ∈ TL, x.num ≠ r) {m : MM} (h : Root1 m) (a b : MV) : Ex TL d (m.newCell r a b) ((m.ext TL d).newCell r a b) := by
 have h1 : m.home r = 0 := by unfold MM.home; rw [h.r]; rfl
 have h2 : (m.ext TL d).home r = 0 := home_extR hT h.r _
 have hl := h.r
 obtain ⟨x, hx⟩ : ∃ x, m.regs = [x] := by
  match hm : m.regs with
  | [] => rw [hm] at hl; cases hl
  | [x] => exact ⟨x, rfl⟩
  | _ :: _ :: _ => rw [hm] at hl; simp at hl
 have g1 : m.regs[(0 : Nat)]? = some x := by rw [hx]; rfl
 have g2 : (m.ext TL d).regs[(0 : Nat)]? = some x := by simp [MM.ext, hx]
 unfold MM.newCell
 rw [h1, h2, g1, g2]
 refine ⟨?_, ⟨by simp [hl], fun c hc => ?_⟩⟩
 ·simp [MM.ext, hx]
 ·simp only [List.mem_append, List.mem_singleton] at hc
  rcases hc with hc | rfl
  ·exact h.c c hc
  ·rfl
theorem use_extR {TL : List MR} {d : Nat} {m : MM} (h : Root1 m) (v : MV) : (m.ext TL d).use v = ((m.use v).1, (m.use v).2.ext TL d) ∧ Root1 (m.use v).2 := by
 unfold MM.use
 by_cases hv : v.c = false ∨ v.n < 0 ∨ (m.cells.length : Int) ≤ v.n
 ·rw [if_pos (show v.c = false ∨ v.n < 0 ∨ ((m.ext TL d).cells.length : Int) ≤ v.n from hv), if_pos hv]
  exact ⟨rfl, h⟩
 ·rw [if_neg (show ¬ (v.c = false ∨ v.n < 0 ∨ ((m.ext TL d).cells.length : Int) ≤ v.n) from hv), if_neg hv]
  have hlt : v.n.toNat < m.cells.length := by omega
  have hmem : m.cells.getD v.n.toNat c0 ∈ m.cells := by rw [List.getD_eq_getElem?_getD, List.getElem?_eq_getElem hlt]; exact List.getElem_mem hlt
  have hh := h.c _ hmem
  have hc : (m.ext TL d).cells.getD v.n.toNat c0 = m.cells.getD v.n.toNat c0 := rfl
  rw [hc]
  generalize m.cells.getD v.n.toNat c0 = c at hh ⊢
  have hl : (m.ext TL d).isLive c = m.isLive c := by
   unfold MM.isLive
   rw [hh]
   have : (m.ext TL d).regs[(0 : Nat)]? = m.regs[(0 : Nat)]? := by simp only [MM.ext]; rw [List.getElem?_append_left (by rw [h.r]; omega)]
   rw [this]
  rw [hl]
  by_cases hb : m.isLive c = true
  ·rw [if_pos hb, if_pos hb]; exact ⟨rfl, h⟩
  ·rw [if_neg hb, if_neg hb, stop_extR]; exact ⟨rfl, h.stop 13⟩
theorem begun_extR {TL : List MR} {d fuel : Nat} {m : MM} {f f' : MM → MV × MM} (h : Root1 m) (hf : ∀ m, Root1 m → Ex TL d (f m) (f' (m.ext TL d))) : Ex TL d (mBegun fuel m f) (mBegun fuel (m.ext TL d) f') := by
 unfold mBegun
 have e : (if fuel ≤ (m.ext TL d).steps then (m.ext TL d).stop 12 else m.ext TL d) = (if fuel ≤ m.steps then m.stop 12 else m).ext TL d := by
  by_cases hs : fuel ≤ m.steps
  ·rw [if_pos (show fuel ≤ (m.ext TL d).steps from hs), if_pos hs, stop_extR]
  ·rw [if_neg (show ¬ fuel ≤ (m.ext TL d).steps from hs), if_neg hs]
 have hr : Root1 (if fuel ≤ m.steps then m.stop 12 else m) := by
  split
  ·exact h.stop 12
  ·exact h
 simp only [e]
 generalize (if fuel ≤ m.steps then m.stop 12 else m) = m1 at hr ⊢
 by_cases h0 : m1.fault ≠ 0
 ·rw [if_pos (show (m1.ext TL d).fault ≠ 0 from h0), if_pos h0]; exact ⟨rfl, hr⟩
 ·rw [if_neg (show ¬ (m1.ext TL d).fault ≠ 0 from h0), if_neg h0]
  exact hf { m1 with steps := m1.steps + 1 } ⟨hr.r, hr.c⟩
theorem mTurns_extR {TL : List MR} {d : Nat} {i : Int} {f : MM → MV × MM} (hf : ∀ m, Root1 m → Ex TL d (f m) (f (m.ext TL d))) : ∀ (k : Nat) (v : MV) (m : MM), Root1 m → Ex TL d (mTurns i f k v m) (mTurns i f k v (m.ext TL d))
 | 0, _, _, h => ⟨rfl, h⟩
 | k + 1, v, m, h => by
  simp only [mTurns]
  by_cases h0 : m.fault ≠ 0
  ·rw [if_pos (show (m.ext TL d).fault ≠ 0 from h0), if_pos h0]; exact ⟨rfl, h⟩
  ·rw [if_neg (show ¬ (m.ext TL d).fault ≠ 0 from h0), if_neg h0, name_extT]
   have A := hf (m.name i v) (h.name i v)
   rw [A.eq]
   exact mTurns_extR hf k _ _ A.r
mutual
theorem mW_extR {TL : List MR} {d fuel : Nat} {r : Int} (hT : ∀ x ∈ TL, x.num ≠ r) : ∀ (t : PT) (sc : Sc) (base : Nat) (m : MM), t.allr r → Root1 m → Ex TL d (mW fuel t sc base m) (mW fuel t sc base (m.ext TL d))
 | .num _ s, _, _, m, _, h => by simp only [mW]; exact begun_extR h (fun m h => ⟨rfl, h⟩)
 | .name _ s, _, _, m, _, h => by simp only [mW]; exact begun_extR h (fun m h => ⟨rfl, h⟩)
 | .node _ k nm rg kids, sc, base, m, ha, h => by
  simp only [PT.allr] at ha
  obtain ⟨hk, hp, hl⟩ := ha
  simp only [mW, if_neg hk]
  refine begun_extR h (fun m h => ?_)
  by_cases h1 : k = .let_
  ·simp only [if_pos h1]; exact mLet_extR hT nm kids sc base m hl h
  ·by_cases h2 : k = .if_
   ·simp only [if_neg h1, if_pos h2]; exact mIf_extR hT kids sc base m hl h
   ·by_cases h3 : k = .loop
    ·simp only [if_neg h1, if_neg h2, if_pos h3]; exact mLoop_extR hT nm kids sc base m hl h
    ·simp only [if_neg h1, if_neg h2, if_neg h3]; exact mOps_extR hT k (valueL rg) hp kids sc base m hl h
theorem mLet_extR {TL : List MR} {d fuel : Nat} {r : Int} (hT : ∀ x ∈ TL, x.num ≠ r) (nm : List UInt8) : ∀ (ts : List PT) (sc : Sc) (base : Nat) (m : MM), allrL r ts → Root1 m → Ex TL d (mLet fuel nm ts sc base m) (mLet fuel nm ts sc base (m.ext TL d))
 | [], _, _, _, _, h => ⟨rfl, h⟩
 | [_], _, _, _, _, h => ⟨rfl, h⟩
 | [a, b], sc, base, m, ha, h => by
  simp only [allrL] at ha
  simp only [mLet]
  have A := mW_extR (fuel := fuel) (d := d) hT a sc base m ha.1 h
  rw [A.eq]
  simp only
  rw [name_extT]
  exact mW_extR hT b _ _ _ ha.2.1 (A.r.name _ _)
 | _ :: _ :: _ :: _, _, _, _, _, h => ⟨rfl, h⟩
theorem mIf_extR {TL : List MR} {d fuel : Nat} {r : Int} (hT : ∀ x ∈ TL, x.num ≠ r) : ∀ (ts : List PT) (sc : Sc) (base : Nat) (m : MM), allrL r ts → Root1 m → Ex TL d (mIf fuel ts sc base m) (mIf fuel ts sc base (m.ext TL d))
 | [], _, _, _, _, h => ⟨rfl, h⟩
 | [_], _, _, _, _, h => ⟨rfl, h⟩
 | [_, _], _, _, _, _, h => ⟨rfl, h⟩
 | [a, b, c], sc, base, m, ha, h => by
  simp only [allrL] at ha
  simp only [mIf]
  have A := mW_extR (fuel := fuel) (d := d) hT a sc base m ha.1 h
  rw [A.eq]
  simp only
  by_cases hv : (mW fuel a sc base m).1.n ≠ 0
  ·rw [if_pos hv, if_pos hv]; exact mW_extR hT b _ _ _ ha.2.1 A.r
  ·rw [if_neg hv, if_neg hv]; exact mW_extR hT c _ _ _ ha.2.2.1 A.r
 | _ :: _ :: _ :: _ :: _, _, _, _, _, h => ⟨rfl, h⟩
theorem mLoop_extR {TL : List MR} {d fuel : Nat} {r : Int} (hT : ∀ x ∈ TL, x.num ≠ r) (nm : List UInt8) : ∀ (ts : List PT) (sc : Sc) (base : Nat) (m : MM), allrL r ts → Root1 m → Ex TL d (mLoop fuel nm ts sc base m) (mLoop fuel nm ts sc base (m.ext TL d))
 | [], _, _, _, _, h => ⟨rfl, h⟩
 | [_], _, _, _, _, h => ⟨rfl, h⟩
 | [_, _], _, _, _, _, h => ⟨rfl, h⟩
 | [a, b, c], sc, base, m, ha, h => by
  simp only [allrL] at ha
  simp only [mLoop]
  have A := mW_extR (fuel := fuel) (d := d) hT a sc base m ha.1 h
  rw [A.eq]
  simp only
  have B := mW_extR (fuel := fuel) (d := d) hT b sc (base + a.cnt) _ ha.2.1 A.r
  rw [B.eq]
  simp only
  exact mTurns_extR (fun m h => mW_extR hT c _ _ m ha.2.2.1 h) _ _ _ B.r
 | _ :: _ :: _ :: _ :: _, _, _, _, _, h => ⟨rfl, h⟩
theorem mOps_extR {TL : List MR} {d fuel : Nat} {r : Int} (hT : ∀ x ∈ TL, x.num ≠ r) (k : Kw) (rg : Int) (hp : k = .pair → rg = r) : ∀ (ts : List PT) (sc : Sc) (base : Nat) (m : MM), allrL r ts → Root1 m → Ex TL d (mOps fuel k rg ts sc base m) (mOps fuel k rg ts sc base (m.ext TL d))
 | [], _, _, _, _, h => ⟨rfl, h⟩
 | [a], sc, base, m, ha, h => by
  simp only [allrL] at ha
  simp only [mOps]
  have A := mW_extR (fuel := fuel) (d := d) hT a sc base m ha.1 h
  rw [A.eq]
  simp only
  obtain ⟨u1, u2⟩ := use_extR (TL := TL) (d := d) A.r (mW fuel a sc base m).1
  rw [u1]
  exact ⟨rfl, u2⟩
 | [a, b], sc, base, m, ha, h => by
  simp only [allrL] at ha
  simp only [mOps]
  have A := mW_extR (fuel := fuel) (d := d) hT a sc base m ha.1 h
  rw [A.eq]
  simp only
  have B := mW_extR (fuel := fuel) (d := d) hT b sc (base + a.cnt) _ ha.2.1 A.r
  rw [B.eq]
  simp only
  by_cases hk : k = .pair
  ·rw [if_pos hk, if_pos hk, hp hk]; exact cell_extR hT B.r _ _
  ·rw [if_neg hk, if_neg hk]; exact ⟨rfl, B.r⟩
 | _ :: _ :: _ :: _, _, _, _, _, h => ⟨rfl, h⟩
end
theorem Sm.root1 {fuel : Nat} {st : ESt} {m : MM} (h : Sm fuel st m) : Root1 m := ⟨by rw [h.r]; rfl, fun c hc => (h.h c hc).1⟩
def inPair (z : MM) (k : Int) (o : Nat) (a : MV) : MM := { z with regs := z.regs ++ [⟨k, o, 1⟩], cells := z.cells ++ [⟨a, ⟨false, 7⟩, 1, o⟩], live := z.live + 1, most := z.live + 1, opened := z.opened + 1 }
theorem pair_in (fuel : Nat) {X : PT} {p p7 : Nat} {nm rg s7 : List UInt8} {k : Int} {m : MM} {st : ESt} {base o : Nat} (hwt : WT [] X .n) (hnn : NoNew X) (hal : X.allr 999) (hrd : X.rgd) (hk : valueL rg = k) (hk9 : k ≠ 999) (h7 : valueL s7 = 7)
  (hs : Sm fuel st m) (hlen : base + X.cnt ≤ m.named.length) :
  (∃ (z : MM) (a : MV), Sm fuel { (ev fuel X [] { st with steps := st.steps + 1 }).2 with steps := (ev fuel X [] { st with steps := st.steps + 1 }).2.steps + 1 } z ∧ Rep z.cells (ev fuel X [] { st with steps := st.steps + 1 }).1 a ∧ (ev fuel X [] { st with steps := st.steps + 1 }).1.has .n ∧
   mW fuel (.node p .pair nm rg [X, .num p7 s7]) [] base (m.ext [⟨k, o, 0⟩] 1) = (⟨true, z.cells.length⟩, inPair z k o a)) ∨
  ((mW fuel (.node p .pair nm rg [X, .num p7 s7]) [] base (m.ext [⟨k, o, 0⟩] 1)).2.fault = 12 ∧ (st.steps = fuel ∨ (ev fuel X [] { st with steps := st.steps + 1 }).2.e = 12 ∨ (ev fuel X [] { st with steps := st.steps + 1 }).2.steps = fuel)) := by
 have hT : ∀ x ∈ [(⟨k, o, 0⟩ : MR)], x.num ≠ 999 := fun x hx => by rw [List.mem_singleton] at hx; subst hx; exact hk9
 have e : ∀ M : MM, mW fuel (.node p .pair nm rg [X, .num p7 s7]) [] base M = mBegun fuel M (fun m => (mW fuel (.num p7 s7) [] (base + X.cnt) (mW fuel X [] base m).2).2.newCell (valueL rg) (mW fuel X [] base m).1 (mW fuel (.num p7 s7) [] (base + X.cnt) (mW fuel X [] base m).2).1) := fun M => by
  simp only [mW, mOps, if_true, reduceCtorEq, if_false]
 rw [e, hk]
 unfold mBegun
 by_cases hq : st.steps = fuel
 ·right
  refine ⟨?_, Or.inl hq⟩
  have h1 : fuel ≤ (m.ext [⟨k, o, 0⟩] 1).steps := by show fuel ≤ m.steps; rw [hs.s]; omega
  simp only [if_pos h1]
  have h2 : ((m.ext [⟨k, o, 0⟩] 1).stop 12).fault = 12 := by
   unfold MM.stop
   rw [if_pos (show (m.ext [⟨k, o, 0⟩] 1).fault = 0 from hs.f)]
  rw [if_pos (by rw [h2]; decide)]
  exact h2
 ·have hle := hs.le
  have h1 : ¬ fuel ≤ (m.ext [⟨k, o, 0⟩] 1).steps := by show ¬ fuel ≤ m.steps; rw [hs.s]; omega
  simp only [if_neg h1]
  rw [if_neg (show ¬ (m.ext [⟨k, o, 0⟩] 1).fault ≠ 0 from fun h => h hs.f)]
  have hs' : Sm fuel { st with steps := st.steps + 1 } { m with steps := m.steps + 1 } := ⟨hs.e, hs.f, by simp only; rw [hs.s], by simp only; omega, hs.c, hs.r, hs.l, hs.o, hs.h⟩
  have E1 := mW_extR (d := 1) (fuel := fuel) hT X [] base { m with steps := m.steps + 1 } hal hs'.root1
  have S1 := mW_ev fuel hwt hnn [] base { m with steps := m.steps + 1 } [] { st with steps := st.steps + 1 } hrd (fun s T h => by simp [look] at h) hlen hs'
  have e2 : ({ m.ext [⟨k, o, 0⟩] 1 with steps := (m.ext [⟨k, o, 0⟩] 1).steps + 1 } : MM) = MM.ext [⟨k, o, 0⟩] 1 { m with steps := m.steps + 1 } := rfl
  rw [e2, E1.eq]
  generalize mW fuel X [] base { m with steps := m.steps + 1 } = x at S1 ⊢
  generalize ev fuel X [] { st with steps := st.steps + 1 } = y at S1 ⊢
  simp only [mW]
  unfold mBegun
  rcases S1 with ⟨s1, s2, s3⟩ | hB
  ·by_cases hq2 : y.2.steps = fuel
   ·right
    refine ⟨?_, Or.inr (Or.inr hq2)⟩
    have h3 : fuel ≤ (x.2.ext [⟨k, o, 0⟩] 1).steps := by show fuel ≤ x.2.steps; rw [s1.s]; omega
    have h2 : ((x.2.ext [⟨k, o, 0⟩] 1).stop 12).fault = 12 := by
     unfold MM.stop
     rw [if_pos (show (x.2.ext [⟨k, o, 0⟩] 1).fault = 0 from s1.f)]
    simp only [if_pos h3]
    rw [if_pos (by rw [h2]; decide), newCell_fault]
    exact h2
   ·left
    have hle2 := s1.le
    have h3 : ¬ fuel ≤ (x.2.ext [⟨k, o, 0⟩] 1).steps := by show ¬ fuel ≤ x.2.steps; rw [s1.s]; omega
    simp only [if_neg h3]
    rw [if_neg (show ¬ (x.2.ext [⟨k, o, 0⟩] 1).fault ≠ 0 from fun h => h s1.f)]
    have hz : Sm fuel { y.2 with steps := y.2.steps + 1 } { x.2 with steps := x.2.steps + 1 } := ⟨s1.e, s1.f, by simp only; rw [s1.s], by simp only; omega, s1.c, s1.r, s1.l, s1.o, s1.h⟩
    refine ⟨{ x.2 with steps := x.2.steps + 1 }, x.1, hz, s2, s3, ?_⟩
    have hr := s1.r
    have hlo : x.2.most = x.2.live := by rw [s1.o, s1.l]
    have hh : ({ x.2.ext [⟨k, o, 0⟩] 1 with steps := (x.2.ext [⟨k, o, 0⟩] 1).steps + 1 } : MM).home k = 1 := by
     unfold MM.home
     simp [MM.ext, hr, homeF]
    have hg : ({ x.2.ext [⟨k, o, 0⟩] 1 with steps := (x.2.ext [⟨k, o, 0⟩] 1).steps + 1 } : MM).regs[(1 : Nat)]? = some ⟨k, o, 0⟩ := by simp [MM.ext, hr]
    simp only
    unfold MM.newCell
    rw [hh, hg]
    simp only
    have hm : (if x.2.most < x.2.live + 1 then x.2.live + 1 else x.2.most) = x.2.live + 1 := by rw [hlo, if_pos (by omega)]
    simp [MM.ext, inPair, hr, h7, hm]
  ·right
   refine ⟨?_, Or.inr (Or.inl hB.1)⟩
   have hf : (x.2.ext [⟨k, o, 0⟩] 1).fault = 12 := hB.2
   have h2 : (if fuel ≤ (x.2.ext [⟨k, o, 0⟩] 1).steps then (x.2.ext [⟨k, o, 0⟩] 1).stop 12 else x.2.ext [⟨k, o, 0⟩] 1).fault = 12 := by
    split
    ·unfold MM.stop; rw [if_neg (by rw [hf]; decide)]; exact hf
    ·exact hf
   simp only
   rw [if_pos (by rw [h2]; decide), newCell_fault]
   exact h2
theorem fin_in (z : MM) (k : Int) (o : Nat) (a : MV) : (inPair z k o a).fin = { z with cells := z.cells ++ [⟨a, ⟨false, 7⟩, 1, o⟩], most := z.live + 1, opened := z.opened + 1 } := by
 unfold MM.fin inPair
 simp
theorem dead_use {fuel : Nat} {st : ESt} {z : MM} (h : Sm fuel st z) (k : Int) (o : Nat) (a : MV) : ((inPair z k o a).fin.use ⟨true, z.cells.length⟩).2.fault = 13 := by
 rw [fin_in z]
 unfold MM.use
 rw [if_neg (by simp; omega)]
 simp only
 have hl : ({ z with cells := z.cells ++ [⟨a, ⟨false, 7⟩, 1, o⟩], most := z.live + 1, opened := z.opened + 1 } : MM).isLive ((z.cells ++ [(⟨a, ⟨false, 7⟩, 1, o⟩ : MC)]).getD ((z.cells.length : Int)).toNat c0) = false := by
  unfold MM.isLive
  simp [h.r]
 rw [if_neg (by rw [hl]; decide)]
 unfold MM.stop
 rw [if_pos (show ({ z with cells := z.cells ++ [⟨a, ⟨false, 7⟩, 1, o⟩], most := z.live + 1, opened := z.opened + 1 } : MM).fault = 0 from h.f)]
theorem live_use {fuel : Nat} {st : ESt} {z : MM} (h : Sm fuel st z) (k : Int) (o : Nat) (a : MV) : (inPair z k o a).use ⟨true, z.cells.length⟩ = (⟨a, ⟨false, 7⟩, 1, o⟩, inPair z k o a) := by
 have hc : (inPair z k o a).cells.getD ((z.cells.length : Int)).toNat c0 = ⟨a, ⟨false, 7⟩, 1, o⟩ := by simp [inPair]
 have hl : (inPair z k o a).isLive ⟨a, ⟨false, 7⟩, 1, o⟩ = true := by
  unfold MM.isLive inPair
  simp [h.r]
 unfold MM.use
 rw [if_neg (by simp [inPair]; omega)]
 simp only
 rw [hc, if_pos hl]
theorem use_12 {m : MM} (h : m.fault = 12) (v : MV) : (m.use v).2.fault = 12 := by
 unfold MM.use MM.stop
 split
 ·exact h
 ·simp only
  split
  ·exact h
  ·rw [if_neg (by rw [h]; decide)]; exact h
theorem text_dead {m : MM} {v : MV} (hc : v.c = true) (h13 : (m.use v).2.fault = 13) {Y : Vl} (hr : Rep m.cells Y v) : (mText Y v m).fault = 13 := by
 cases Y with
 | n k => simp only [Rep] at hr; rw [hc] at hr; cases hr.1
 | p a b =>
  simp only [mText]
  rw [text_keep a _ _ (by rw [h13]; decide), text_keep b _ _ (by rw [h13]; decide)]
  exact h13
theorem late_run (fuel n : Nat) {X : PT} {p p0 p7 : Nat} {nm nm0 rg rg0 s7 : List UInt8} {k : Int} (hwt : WT [] X .n) (hnn : NoNew X) (hal : X.allr 999) (hrd : X.rgd) (hk : valueL rg = k) (hk0 : valueL rg0 = k) (hk9 : k ≠ 999) (h7 : valueL s7 = 7) (hlen : X.cnt ≤ n) :
  (∀ Y, Rep (mW fuel (.node p0 .new nm0 rg0 [.node p .pair nm rg [X, .num p7 s7]]) [] 0 ((m0 n).opn (-1))).2.cells Y (mW fuel (.node p0 .new nm0 rg0 [.node p .pair nm rg [X, .num p7 s7]]) [] 0 ((m0 n).opn (-1))).1 → (mText Y (mW fuel (.node p0 .new nm0 rg0 [.node p .pair nm rg [X, .num p7 s7]]) [] 0 ((m0 n).opn (-1))).1 (mW fuel (.node p0 .new nm0 rg0 [.node p .pair nm rg [X, .num p7 s7]]) [] 0 ((m0 n).opn (-1))).2).fault = 13) ∨
  ((mW fuel (.node p0 .new nm0 rg0 [.node p .pair nm rg [X, .num p7 s7]]) [] 0 ((m0 n).opn (-1))).2.fault = 12 ∧ (0 = fuel ∨ (ev fuel X [] ⟨1, 0, 0⟩).2.e = 12 ∨ (ev fuel X [] ⟨1, 0, 0⟩).2.steps = fuel)) := by
 have hs0 : Sm fuel ⟨0, 0, 0⟩ ((m0 n).opn (-1)) := ⟨rfl, rfl, rfl, Nat.zero_le _, rfl, rfl, rfl, rfl, fun c hc => by simp [m0, MM.opn] at hc⟩
 have e : mW fuel (.node p0 .new nm0 rg0 [.node p .pair nm rg [X, .num p7 s7]]) [] 0 ((m0 n).opn (-1)) = ((mW fuel (.node p .pair nm rg [X, .num p7 s7]) [] 0 (MM.ext [⟨k, 1, 0⟩] 1 ((m0 n).opn (-1)))).1, (mW fuel (.node p .pair nm rg [X, .num p7 s7]) [] 0 (MM.ext [⟨k, 1, 0⟩] 1 ((m0 n).opn (-1)))).2.fin) := by
  rw [← hk0]
  conv => lhs; unfold mW
  simp only [if_true, mNew]
  rfl
 rw [e]
 rcases pair_in fuel (p := p) (p7 := p7) (nm := nm) (o := 1) (base := 0) hwt hnn hal hrd hk hk9 h7 hs0 (by simp [m0, MM.opn]; omega) with ⟨z, a, hz, _, _, hm⟩ | ⟨hf, hw⟩
 ·left
  rw [hm]
  intro Y hY
  exact text_dead rfl (dead_use hz k 1 a) hY
 ·right
  exact ⟨by rw [(fin_fault _).1]; exact hf, hw⟩
end Go.Proofs.YtpicaknklgccoabGreatDoor
