import Derived.Test.YtpicaknklgccoabGreatDoorX27
import Derived.Test.YtpicaknklgccoabGreatDoorX13
import Derived.Test.YtpicaknklgccoabGreatDoorX1
import Derived.Test.YtpicaknklgccoabGreatDoorX14
namespace Go.Proofs.YtpicaknklgccoabGreatDoor
open Go.RowKit
theorem slice_anyU {w : World} {base : Nat} {e : TypeId} {size : Nat} {v : Value} {n : Nat} {xs : List Value} (h : w.ownsRow base e size v n xs) : ∃ a c, v = .slice a n c := by
 rcases h.2 with ⟨h1, h2⟩ | ⟨g, cap, cur, h1, _⟩
 ·exact ⟨none, 0, by rw [h1, h2]⟩
 ·exact ⟨_, _, h1⟩
set_option maxRecDepth 100000 in
set_option maxHeartbeats 4000000 in
theorem parsePlaced_full (s : ByteArray) (w : World) (hs : s.size ≤ 9000) (e : PT) (hp : PE true (tokens s.data.toList) e []) : Calls Tryz.prog 36 #[.string s] w fun v w' => ∃ x1 n1 c1 x2 n2 c2 ns, v = .returned (.tuple #[treeV (.slice x1 n1 c1) (.slice x2 n2 c2), .int .i64 0, .int .i64 0]) ∧ Below w.heap.size w w' ∧ TreeIn w' (.slice x1 n1 c1) (.slice x2 n2 c2) ns (opn e 0) ∧ NA [] e 0 ns := by
 obtain ⟨ns, hna, hpg⟩ := prog_yes (len := s.size) hp
 have hpp := fun w => ParsePlaced_any s w (by omega)
 have HPG : Hid _ := hpg
 have HNA : Hid _ := hna
 clear hp hna hpg
 go_enter Tryz.func36, Tryz.ntmps36
 go_wp2_with fail
 refine (hpp _).mono ?_
 rintro v w1 ⟨hb, hv⟩
 have hr := kept1 hb
 have hlt := blk_lt hr
 have HB : Hid _ := below1 hb
 rcases hv with ⟨q', hq', _⟩ | ⟨_, nv, ov, rfl, hT⟩
 ·rw [HPG.out] at hq'; cases hq'
 ·rw [HPG.out] at hT
  simp only at hT
  obtain ⟨x1, c1, e1⟩ := slice_anyU hT.nd
  obtain ⟨x2, c2, e2⟩ := slice_anyU hT.op
  have HNN : Hid _ := own_neH hT.nd hr (by decide)
  have HNO : Hid _ := own_neH hT.op hr (by decide)
  subst e1
  subst e2
  have r0 : w1.cell? ⟨w.heap.size, 0, none⟩ = some (.slice none 0 0) := by rw [blk_cell hr]; rfl
  have r1 : w1.cell? ⟨w.heap.size, 1, none⟩ = some (.slice none 0 0) := by rw [blk_cell hr]; rfl
  have f0 := blk_free hr 0
  have f1 := blk_free hr 1
  have hW := blk_alloc (.cells #[.slice x1 ns.length c1, .slice x2 (opn e 0).length c2] 62) (blk_set (blk_set hr 0 (.slice x1 ns.length c1)) 1 (.slice x2 (opn e 0).length c2))
  have S0 : Hid ((((w1.setCell ⟨w.heap.size, 0, none⟩ (.slice x1 ns.length c1)).setCell ⟨w.heap.size, 1, none⟩ (.slice x2 (opn e 0).length c2)).alloc (.cells #[.slice x1 ns.length c1, .slice x2 (opn e 0).length c2] 62)).cell? ⟨w.heap.size, 0, none⟩ = some (.slice x1 ns.length c1)) := (blk_cell hW 0).trans rfl
  have S1 : Hid ((((w1.setCell ⟨w.heap.size, 0, none⟩ (.slice x1 ns.length c1)).setCell ⟨w.heap.size, 1, none⟩ (.slice x2 (opn e 0).length c2)).alloc (.cells #[.slice x1 ns.length c1, .slice x2 (opn e 0).length c2] 62)).cell? ⟨w.heap.size, 1, none⟩ = some (.slice x2 (opn e 0).length c2)) := (blk_cell hW 1).trans rfl
  have hTS : TreeIn ((w1.setCell ⟨w.heap.size, 0, none⟩ (.slice x1 ns.length c1)).setCell ⟨w.heap.size, 1, none⟩ (.slice x2 (opn e 0).length c2)) (.slice x1 ns.length c1) (.slice x2 (opn e 0).length c2) ns (opn e 0) := ⟨owns_blk hT.nd (fun k hk => by rw [blk_other _ _ (by simpa using HNN.out k hk), blk_other _ _ (by simpa using HNN.out k hk)]), owns_blk hT.op (fun k hk => by rw [blk_other _ _ (by simpa using HNO.out k hk), blk_other _ _ (by simpa using HNO.out k hk)])⟩
  have HTS : Hid _ := hTS.below ((Below.refl _ _).alloc (Nat.le_refl _) (.cells #[.slice x1 ns.length c1, .slice x2 (opn e 0).length c2] 62))
  have hne : w.heap.size ≠ w1.heap.size := by omega
  unfold treeV
  clear hT hb hr hpp hW hTS
  go_wp2
  refine bodyPost_ret (v := .tuple #[.agg #[.slice x1 ns.length c1, .slice x2 (opn e 0).length c2], .int .i64 0, .int .i64 0]) (by have s0 := S0.out; have s1 := S1.out; simp [results, Tryz.results36, go_sem, s0, s1]) rfl ⟨x1, ns.length, c1, x2, (opn e 0).length, c2, ns, rfl, ?_, HTS.out, HNA.out⟩
  exact ((HB.out.setCell (p := ⟨w.heap.size, 0, none⟩) (Nat.le_refl _) _).setCell (p := ⟨w.heap.size, 1, none⟩) (Nat.le_refl _) _).alloc (by have := HB.out.size; simp [World.setCell]; omega) _
set_option maxRecDepth 100000 in
set_option maxHeartbeats 4000000 in
theorem readPlaced_full (s : ByteArray) (w : World) (hs : s.size ≤ 9000) (e : PT) (hp : PE true (tokens s.data.toList) e []) : Calls Tryz.prog 26 #[.string s] w fun v w' => ∃ x1 n1 c1 x2 n2 c2 ns, v = .returned (.tuple #[treeV (.slice x1 n1 c1) (.slice x2 n2 c2), .int .i64 (chkAns e).1, .int .i64 (chkAns e).2]) ∧ Below w.heap.size w w' ∧ TreeIn w' (.slice x1 n1 c1) (.slice x2 n2 c2) ns (opn e 0) ∧ NA [] e 0 ns := by
 have hcnt := Study_len hp
 have hpp := fun w => parsePlaced_full s w hs e hp
 have hpr := fun (w : World) (nv ov : Value) (ns : List NR) (hna : NA [] e 0 ns) (h : TreeIn w nv ov ns (opn e 0)) => Program_any w nv ov ns (opn e 0) h (op_ok hna) (by have := hna.len; omega) (hna.small (fun _ h => by simp at h) (by omega)) (fun j n hj => by have := hna.back j n hj; simpa using this)
 unfold treeV at hpp
 have HPR : Hid _ := hpr
 have HPP : Hid _ := hpp
 clear hp hpr hpp
 obtain ⟨ans, hans⟩ : ∃ ans, ans = chkAns e := ⟨_, rfl⟩
 rw [← hans]
 have HANS : Hid _ := hans
 clear hans
 go_enter Tryz.func26, Tryz.ntmps26
 go_wp2_with fail
 refine (HPP.out _).mono ?_
 rintro _ w1 ⟨x1, n1, c1, x2, n2, c2, ns, rfl, hb, hT, hna⟩
 have hr := kept1 hb
 have hlt := blk_lt hr
 have HB : Hid _ := below1 hb
 have HR : Hid _ := hr
 have HNN : Hid _ := own_neH hT.nd hr (by decide)
 have HNO : Hid _ := own_neH hT.op hr (by decide)
 have hT1 := hT.below ((Below.refl _ w1).alloc (Nat.le_refl _) (.cells #[.slice x1 n1 c1, .slice x2 n2 c2] 62))
 have hpr := HPR.out (w1.alloc (.cells #[.slice x1 n1 c1, .slice x2 n2 c2] 62)) _ _ ns hna hT1
 rw [prog_ans hna, ← HANS.out] at hpr
 have HNA : Hid _ := hna
 unfold treeV at hpr
 clear hT hb hr HPP HPR hna
 go_wp2_with fail
 refine hpr.mono ?_
 rintro _ w2 ⟨rfl, hb2⟩
 have HT2 : Hid _ := hT1.below hb2
 have hk := kept1 hb2
 have k0 : w2.cell? ⟨w1.heap.size, 0, none⟩ = some (.slice x1 n1 c1) := by rw [blk_cell hk]; rfl
 have k1 : w2.cell? ⟨w1.heap.size, 1, none⟩ = some (.slice x2 n2 c2) := by rw [blk_cell hk]; rfl
 have hr2 : w2.heap[w.heap.size]? = some (.cells #[.slice none 0 0, .slice none 0 0] 62 (0, 0)) := by
  rw [hb2.block _ (by simp; omega)]; exact blk_alloc _ HR.out
 have r0 : w2.cell? ⟨w.heap.size, 0, none⟩ = some (.slice none 0 0) := by rw [blk_cell hr2]; rfl
 have r1 : w2.cell? ⟨w.heap.size, 1, none⟩ = some (.slice none 0 0) := by rw [blk_cell hr2]; rfl
 have f0 := blk_free hr2 0
 have f1 := blk_free hr2 1
 have hB2 : Below w.heap.size w w2 := HB.out.trans ((below1 hb2).mono HB.out.size)
 have HB2 : Hid _ := hB2
 have hne : w.heap.size ≠ w1.heap.size := by omega
 clear hk hr2 hb2 hB2 hpr hT1
 go_wp2
 refine bodyPost_ret (v := .tuple #[.agg #[.slice x1 n1 c1, .slice x2 n2 c2], .int .i64 ans.1, .int .i64 ans.2]) (by simp [results, Tryz.results26, go_sem, r0, r1]) rfl ⟨x1, n1, c1, x2, n2, c2, ns, rfl, ?_, ⟨owns_blk HT2.out.nd (fun k hk => by rw [blk_other _ _ (by simpa using HNN.out k hk), blk_other _ _ (by simpa using HNN.out k hk)]), owns_blk HT2.out.op (fun k hk => by rw [blk_other _ _ (by simpa using HNO.out k hk), blk_other _ _ (by simpa using HNO.out k hk)])⟩, HNA.out⟩
 exact (HB2.out.setCell (p := ⟨w.heap.size, 0, none⟩) (Nat.le_refl _) _).setCell (p := ⟨w.heap.size, 1, none⟩) (Nat.le_refl _) _
set_option maxRecDepth 100000 in
set_option maxHeartbeats 4000000 in
theorem leaseRun_ok (s : ByteArray) (fuel : Int) (w : World) (e : PT) (y : Nat) (S : ByteArray) (a b c d E : Int) (hrd : ∀ w, Calls Tryz.prog 26 #[.string s] w fun v w' => ∃ x1 n1 c1 x2 n2 c2 ns, v = .returned (.tuple #[treeV (.slice x1 n1 c1) (.slice x2 n2 c2), .int .i64 0, .int .i64 y]) ∧ Below w.heap.size w w' ∧ TreeIn w' (.slice x1 n1 c1) (.slice x2 n2 c2) ns (opn e 0) ∧ NA [] e 0 ns)
  (hrn : ∀ (w' : World) (x1 : Option Addr) (n1 c1 : Nat) (x2 : Option Addr) (n2 c2 : Nat) (ns : List NR), Below w.heap.size w w' → TreeIn w' (.slice x1 n1 c1) (.slice x2 n2 c2) ns (opn e 0) → NA [] e 0 ns → Calls Tryz.prog 28 #[treeV (.slice x1 n1 c1) (.slice x2 n2 c2), .int .i64 fuel] w' fun v w'' => v = .returned (.tuple #[.agg #[.string S, .int .i64 a, .int .i64 b, .int .i64 c, .int .i64 d], .int .i64 E]) ∧ Below w'.heap.size w' w'') :
  Calls Tryz.prog 13 #[.string s, .int .i64 fuel] w fun v w' => v = .returned (.tuple #[.agg #[.string S, .int .i64 a, .int .i64 b, .int .i64 c, .int .i64 d], .int .i64 E]) ∧ Below w.heap.size w w' := by
 unfold treeV at hrd hrn
 have HR : Hid _ := hrd
 have HN : Hid _ := hrn
 clear hrd hrn
 go_enter Tryz.func13, Tryz.ntmps13
 go_wp2_with fail
 refine (HR.out _).mono ?_
 rintro _ w1 ⟨x1, n1, c1, x2, n2, c2, ns, rfl, hb, hT, hna⟩
 have hq : w1.heap[w.heap.size]? = some (.cells #[.string ⟨#[]⟩, .int .i64 0, .int .i64 0, .int .i64 0, .int .i64 0] 35) := kept1 hb
 have hB := below1 hb
 obtain ⟨W2, hE2⟩ : ∃ W2, W2 = w1.alloc (.cells #[.slice x1 n1 c1, .slice x2 n2 c2] 62) := ⟨_, rfl⟩
 have hb2 : Below w1.heap.size w1 W2 := by rw [hE2]; exact below_al (Below.refl _ _) _
 have hrn2 := HN.out W2 x1 n1 c1 x2 n2 c2 ns (hB.trans (hb2.mono hB.size)) (hT.below hb2) hna
 have HRN : Hid _ := hrn2
 have HB2 : Hid _ := hB.trans (hb2.mono hB.size)
 have HQ2 : Hid (W2.heap[w.heap.size]? = some (.cells #[.string ⟨#[]⟩, .int .i64 0, .int .i64 0, .int .i64 0, .int .i64 0] 35)) := by
  show W2.heap[w.heap.size]? = _
  rw [hb2.block _ (blk_lt hq)]; exact hq
 clear hb hT hna hq hB hb2 hrn2 HR HN
 go_wp2_with fail
 rw [← hE2]
 refine Calls.mono HRN.out ?_
 rintro _ w3 ⟨rfl, hb3⟩
 have hq3 : w3.heap[w.heap.size]? = some (.cells #[.string ⟨#[]⟩, .int .i64 0, .int .i64 0, .int .i64 0, .int .i64 0] 35) := by rw [hb3.block _ (blk_lt HQ2.out)]; exact HQ2.out
 have HB3 : Hid _ := HB2.out.trans (hb3.mono HB2.out.size)
 clear hb3 HRN HB2 HQ2 hE2
 go_wp2_with (refine st_row rfl 35 (.tmp 4) (.tmp 22) rfl w.heap.size #[.string S, .int .i64 a, .int .i64 b, .int .i64 c, .int .i64 d] rfl rfl 35 _ hq3 Tryz.infoRes rfl (by simp [Value.oneCell']) ?_; intro W hW hWs hWo hW1 hW2 hW3)
 obtain ⟨s0, s1, s2, s3, s4⟩ := res_cells hW
 have HBN : Hid _ := below_new HB3.out (Nat.le_refl _) hWs hWo hW1 hW2 hW3
 clear hW hWs hWo hW1 hW2 hW3 HB3 hq3
 go_wp2
 refine bodyPost_ret (v := .tuple #[.agg #[.string S, .int .i64 a, .int .i64 b, .int .i64 c, .int .i64 d], .int .i64 E]) (by simp [results, Tryz.results13, go_sem, s0, s1, s2, s3, s4]) rfl ⟨rfl, HBN.out⟩
mutual
theorem NA.forms : ∀ {scope : Sc} {t : PT} {base : Nat} {ns : List NR} {r : Int}, NA scope t base ns → t.allr r → ∀ n ∈ ns, n.form ≠ 12
 | _, .num p s, _, _, _, h, _, n, hn => by simp only [NA] at h; subst h; rw [List.mem_singleton] at hn; subst hn; simp
 | _, .name p s, _, _, _, h, _, n, hn => by simp only [NA] at h; subst h; rw [List.mem_singleton] at hn; subst hn; simp
 | _, .node p k nm rg kids, _, _, _, h, h3, n, hn => by
  simp only [NA] at h
  obtain ⟨ks, beh, hk, rfl⟩ := h
  simp only [PT.allr] at h3
  rcases List.mem_append.1 hn with hn | hn
  ·exact hk.forms h3.2.2 n hn
  ·rw [List.mem_singleton] at hn; subst hn; simp only; have := h3.1; cases k <;> first | decide | exact absurd rfl this
theorem NAs.forms : ∀ {scope : Sc} {nm : List UInt8} {ts : List PT} {bs : List Bool} {base : Nat} {ns : List NR} {r : Int}, NAs scope nm ts bs base ns → allrL r ts → ∀ n ∈ ns, n.form ≠ 12
 | _, _, [], _, _, _, _, h, _, n, hn => by simp only [NAs] at h; rw [h.2] at hn; simp at hn
 | _, _, _ :: _, [], _, _, _, h, _, n, hn => by simp [NAs] at h
 | _, _, t :: r, b :: bs, _, _, _, h, h3, n, hn => by
  simp only [NAs] at h
  obtain ⟨a, c, h1, h2, rfl⟩ := h
  simp only [allrL] at h3
  rcases List.mem_append.1 hn with hn | hn
  ·exact h1.forms h3.1 n hn
  ·exact h2.forms h3.2 n hn
end
mutual
theorem NA.rgnO : ∀ {scope : Sc} {t : PT} {base : Nat} {ns : List NR}, NA scope t base ns → t.rg3 → ∀ n ∈ ns, 0 ≤ n.region
 | _, .num p s, _, _, h, _, n, hn => by simp only [NA] at h; subst h; rw [List.mem_singleton] at hn; subst hn; exact Int.le_refl _
 | _, .name p s, _, _, h, _, n, hn => by simp only [NA] at h; subst h; rw [List.mem_singleton] at hn; subst hn; exact Int.le_refl _
 | _, .node p k nm rg kids, _, _, h, h3, n, hn => by
  simp only [NA] at h
  obtain ⟨ks, beh, hk, rfl⟩ := h
  simp only [PT.rg3] at h3
  rcases List.mem_append.1 hn with hn | hn
  ·exact hk.rgnO h3.2 n hn
  ·rw [List.mem_singleton] at hn; subst hn; simp only; omega
theorem NAs.rgnO : ∀ {scope : Sc} {nm : List UInt8} {ts : List PT} {bs : List Bool} {base : Nat} {ns : List NR}, NAs scope nm ts bs base ns → rg3L ts → ∀ n ∈ ns, 0 ≤ n.region
 | _, _, [], _, _, _, h, _, n, hn => by simp only [NAs] at h; rw [h.2] at hn; simp at hn
 | _, _, _ :: _, [], _, _, h, _, n, hn => by simp [NAs] at h
 | _, _, t :: r, b :: bs, _, _, h, h3, n, hn => by
  simp only [NAs] at h
  obtain ⟨a, c, h1, h2, rfl⟩ := h
  simp only [rg3L] at h3
  rcases List.mem_append.1 hn with hn | hn
  ·exact h1.rgnO h3.1 n hn
  ·exact h2.rgnO h3.2 n hn
end
mutual
theorem rgdO_of : ∀ t : PT, t.tame → t.rg3 → t.rgd
 | .num _ _, h, _ => by simp only [PT.tame] at h; simp only [PT.rgd]; exact h
 | .name _ _, _, _ => by simp [PT.rgd]
 | .node _ _ _ _ kids, h, h3 => by
  simp only [PT.tame] at h
  simp only [PT.rg3] at h3
  simp only [PT.rgd]
  exact ⟨by omega, rgdOL_of kids h.2 h3.2⟩
theorem rgdOL_of : ∀ ts : List PT, tameL ts → rg3L ts → rgdL ts
 | [], _, _ => by simp [rgdL]
 | t :: r, h, h3 => by
  simp only [tameL] at h
  simp only [rg3L] at h3
  simp only [rgdL]
  exact ⟨rgdO_of t h.1 h3.1, rgdOL_of r h.2 h3.2⟩
end
theorem newsK_none : ∀ (l acc : List NR), (∀ n ∈ l, n.form ≠ 12) → newsK l acc = (acc, 0, 0)
 | [], _, _ => rfl
 | n :: r, acc, h => by
  simp only [newsK]
  rw [if_neg (h n (by simp))]
  exact newsK_none r acc (fun m hm => h m (by simp [hm]))
theorem outK_none : ∀ (l : List NR), outK [] l = (0, 0)
 | [] => rfl
 | n :: r => by
  simp only [outK, newF, List.find?_nil]
  split <;> exact outK_none r
theorem opNs_mem {ns : List NR} {op : List Int} {n : NR} (h : n ∈ opNs ns op) : n ∈ ns ∨ n = nr0 := by
 unfold opNs at h
 rw [List.mem_map] at h
 obtain ⟨x, _, rfl⟩ := h
 cases hx : ns[x.toNat]? with
 | none => exact Or.inr rfl
 | some m => exact Or.inl (List.mem_of_getElem? hx)
theorem vetAns_one {e : PT} {U : Ty} {r : Nat} {ns : List NR} (hna : NA [] e 0 ns) (hwt : WT [] e U) (hr : e.allr r) : vetAns ns (opn e 0) = (0, 0) ∧ SzOk [] ns := by
 obtain ⟨A, _, hpl⟩ := hwt.plr (r := r) [] [] ns hna (fun s U h => by simp [look] at h) hr
 have hf := hna.forms hr
 have hn := newsK_none (opNs ns (opn e 0)) [] (fun n h => by
  rcases opNs_mem h with h | h
  ·exact hf n h
  ·rw [h]; decide)
 refine ⟨?_, hpl.sz⟩
 unfold vetAns
 rw [hn, if_neg (by simp), outK_none, if_neg (by simp)]
 exact hpl.pl
theorem leaseVet_one (s : ByteArray) (w : World) (hs : s.size ≤ 9000) (e : PT) (U : Ty) (r : Nat) (hp : PE true (tokens s.data.toList) e []) (hc : chkAns e = (0, 0)) (hwt : WT [] e U) (hr : e.allr r) :
  Calls Tryz.prog 12 #[.string s] w fun v w' => v = .returned (.tuple #[.int .i64 (0 : Nat), .int .i64 (0 : Nat)]) ∧ Below w.heap.size w w' := by
 have h3 := (hp.rg3 (tokens_rg _)).1
 have hcnt := Study_len hp
 refine leaseVet_ok s w e 0 (0, 0) (fun w => ?_) (fun w' x1 n1 c1 x2 n2 c2 ns hTr hna => ?_)
 ·have := readPlaced_pos s w hs e hp
  rw [hc] at this
  exact this
 ·obtain ⟨hva, hsz⟩ := vetAns_one hna.1 hwt hr
  have := vetProgram_any w' (.slice x1 n1 c1) (.slice x2 n2 c2) ns (opn e 0) hTr (op_ok hna.1) (by have := hna.1.len; omega) (hna.1.small (fun _ h => by simp at h) (by omega)) (hna.1.rgnO h3) hsz
  rw [hva] at this
  exact this
theorem leaseRun_nonew (s : ByteArray) (w : World) (hs : s.size ≤ 9000) (htab : Lib.TabIs Tryz.prog w "internal/strconv.uint64pow10" .u64 Lib.pow10Tab) (e : PT) (U : Ty) (hp : PE true (tokens s.data.toList) e []) (hc : chkAns e = (0, 0)) (hwt : WT [] e U) (hU : U.size ≤ 63) (hnn : NoNew e) (hrg : e.rgd) (fuel : Nat) (hf : fuel ≤ 20000) :
  Calls Tryz.prog 13 #[.string s, .int .i64 fuel] w fun v w' => v = .returned (.tuple #[evalV (ev fuel e [] ⟨0, 0, 0⟩), .int .i64 (ev fuel e [] ⟨0, 0, 0⟩).2.e]) ∧ Below w.heap.size w w' := by
 have hwf := hp.wf
 have hcnt := Study_len hp
 obtain ⟨S, a, b, c, d, hV⟩ := evalV_agg (ev fuel e [] ⟨0, 0, 0⟩)
 rw [hV]
 refine leaseRun_ok s fuel w e 0 S a b c d _ (fun w => ?_) (fun w' x1 n1 c1 x2 n2 c2 ns hb hTr hna => ?_)
 ·have := readPlaced_full s w hs e hp
  rw [hc] at this
  exact this
 ·have hnl := hna.len
  refine run_ok w' x1 n1 c1 x2 n2 c2 fuel hf S a b c d _ (fun w'' hb'' => ?_)
  obtain ⟨X, hX, hXs, hrv, hfl⟩ := run_plain fuel ns.length hwt hU hnn hrg (by omega)
  have := Run_any x1 n1 c1 x2 n2 c2 fuel ns (opn e 0) hf (by omega) w'' (hTr.below hb'') (Lib.tabBelow_of_tabIs htab w'' (hb.trans (hb''.mono hb.size))) e hna.showsM0 hwf hrg hnl.symm _ rfl X hX hXs
  rw [hrv, hfl, hV] at this
  exact this
end Go.Proofs.YtpicaknklgccoabGreatDoor
namespace Go.Proofs.YtpicaknklgccoabGreatDoor
open Go.RowKit
open Go.Lib (decDigits)
mutual
theorem np_allr {r : Int} : ∀ e : PT, e.np.allr r → e.allr r
 | .num _ _, _ => by simp [PT.allr]
 | .name _ _, _ => by simp [PT.allr]
 | .node _ k nm rg kids, h => by
  simp only [PT.np, PT.allr] at h ⊢
  exact ⟨h.1, h.2.1, npL_allr kids h.2.2⟩
theorem npL_allr {r : Int} : ∀ l : List PT, allrL r (npL l) → allrL r l
 | [], _ => by simp [allrL]
 | t :: ts, h => by
  simp only [npL, allrL] at h ⊢
  exact ⟨np_allr t h.1, npL_allr ts h.2⟩
end
mutual
theorem nonew_allr {r : Int} : ∀ e : PT, e.allr r → NoNew e
 | .num _ _, _ => .num
 | .name _ _, _ => .name
 | .node _ k nm rg kids, h => by
  simp only [PT.allr] at h
  exact .node h.1 (nonewL_allr kids h.2.2)
theorem nonewL_allr {r : Int} : ∀ l : List PT, allrL r l → ∀ x ∈ l, NoNew x
 | [], _, x, hx => by simp at hx
 | t :: ts, h, x, hx => by
  simp only [allrL] at h
  rcases List.mem_cons.1 hx with hx | hx
  ·rw [hx]; exact nonew_allr t h.1
  ·exact nonewL_allr ts h.2 x hx
end
theorem pt_allr {rg : List UInt8} {r : Int} (hr : valueL rg = r) : ∀ {vs : List Nat} {x : KE} {t : Nat}, KT vs x t → (x.pt rg).allr r := by
 intro vs x t h
 induction h with
 | num _ => simp [KE.pt, PT.allr]
 | var _ => simp [KE.pt, PT.allr]
 | let_ _ _ _ _ ha hb => simp [KE.pt, PT.allr, allrL, ha, hb]
 | if_ _ _ _ ha hb hc => simp [KE.pt, PT.allr, allrL, ha, hb, hc]
 | loop _ _ _ _ ha hb hc => simp [KE.pt, PT.allr, allrL, ha, hb, hc]
 | pair _ _ _ _ ha hb => simp [KE.pt, PT.allr, allrL, ha, hb, hr]
 | fst _ _ _ ha => simp [KE.pt, PT.allr, allrL, ha]
 | snd _ _ _ ha => simp [KE.pt, PT.allr, allrL, ha]
 | two hk _ _ ha hb => rcases hk with rfl | rfl | rfl <;> simp [KE.pt, PT.allr, allrL, ha, hb]
theorem value_hash (l : List UInt8) : valueL (35 :: l) = valueL l := by unfold valueL; rw [List.foldl_cons]; rfl
set_option maxRecDepth 100000 in
set_option maxHeartbeats 4000000 in
theorem One_any (t region : Int) (rv : Value) (raw : List Int) (w : World) (ht : I64 t) (hrg : I64 region) (h : RawIn w rv raw) (htab : Lib.TabIs Tryz.prog w "internal/strconv.uint64pow10" .u64 Lib.pow10Tab) :
  Calls Tryz.prog 3 #[.int .i64 t, rv, .int .i64 region] w fun v w' => v = .returned (.bool true) ∧ Below w.heap.size w w' := by
 obtain ⟨ra, rn, rc, rfl⟩ : ∃ ra rn rc, rv = .slice ra rn rc := by
  rcases h.2 with ⟨h1, _⟩ | ⟨a, cap, h1, _, _⟩
  ·exact ⟨_, _, _, h1⟩
  ·exact ⟨_, _, _, h1⟩
 have hbd := build_any w t (.slice ra rn rc) raw ht h
 obtain ⟨hKT, hlen, hprs, _⟩ := build_ok t raw
 generalize buildF t raw = x at *
 have hn := pickF_lt region 1000 (by omega)
 have hpk := fun W => pick_any region 1000 W hrg (by omega) (by omega)
 generalize pickF region 1000 = n at *
 obtain ⟨rg, hrgd⟩ : ∃ rg, rg = 35 :: decDigits n := ⟨_, rfl⟩
 have hd3 := dec_len3 n (by omega)
 have hrok : RgOk true rg := ⟨decDigits n, hrgd, dec_good n 3 hd3⟩
 have hrl : rg.length ≤ 4 := by rw [hrgd]; simp; omega
 have hrv : valueL rg = (n : Int) := by rw [hrgd, value_hash, value_dec]
 obtain ⟨e, hpe, hchk, hnp, hev⟩ := built_PE (placed := true) (rg := rg) hrok hKT (by omega)
 have hall : e.allr n := np_allr e (by rw [hnp]; exact pt_allr hrv hKT)
 have hwt : WT [] e (tyZ (pickF t 5)) := np_WT e (by rw [hnp]; exact pt_WT hKT (by simp))
 have hplen := pt_len (rg := rg) hKT
 have hpl2 : x.prs * (rg.length + 1) ≤ 75 * 5 := Nat.mul_le_mul hprs (by omega)
 have htx := ktext_any rg hKT (by simp)
 have hregT : ByteArray.mk #[32, 35] ++ bs (decDigits n) = bs (regT rg) := by
  rw [show ByteArray.mk #[32, 35] = bs [32, 35] from rfl, bs_app, hrgd]; rfl
 obtain ⟨src, hsrc⟩ : ∃ src, src = bs (x.pt rg).tidy := ⟨_, rfl⟩
 have hsl : src.data.toList = (x.pt rg).tidy := by rw [hsrc]; simp [bs]
 have hss : src.size ≤ 9000 := by rw [hsrc, bs_size]; omega
 rw [← hsl] at hpe
 have hit : ∀ W, Below w.heap.size w W → ItoaOk W := fun W hW => by
  intro n W' hn hW'
  exact itoa_ok w htab n W' hn (hW.trans (hW'.mono hW.size))
 obtain ⟨R, hR⟩ : ∃ R, R = ev 20000 (x.pt []) [] ⟨0, 0, 0⟩ := ⟨_, rfl⟩
 have hE : ev 20000 e [] ⟨0, 0, 0⟩ = R := by rw [hev, hR]
 have hRu : ∀ W, Below w.heap.size w W → Calls Tryz.prog 13 #[.string src, .int .i64 (20000 : Nat)] W fun v w' => v = .returned (.tuple #[evalV R, .int .i64 R.2.e]) ∧ Below W.heap.size W w' := fun W hW => by
  have := leaseRun_nonew src W hss (Lib.tabBelow_of_tabIs htab W hW) e _ hpe hchk hwt (by have := tyZ_size (pickF t 5); omega) (nonew_allr e hall) (rgdO_of e (hpe.tame (tokens_tame _)).1 (hpe.rg3 (tokens_rg _)).1) 20000 (by omega)
  rw [hE] at this; exact this
 have hVe : ∀ W, Calls Tryz.prog 12 #[.string src] W fun v w' => v = .returned (.tuple #[.int .i64 (0 : Nat), .int .i64 (0 : Nat)]) ∧ Below W.heap.size W w' := fun W => leaseVet_one src W hss e _ n hpe hchk hwt hall
 have hWk : ∀ W p, Below w.heap.size w W → KIn W x p → Calls Tryz.prog 14 #[.pointer (some ⟨p, 0, none⟩), .int .i64 (20000 : Nat)] W fun v w' => v = .returned (.tuple #[evalV R, .bool (decide (R.2.e = 0))]) ∧ Below W.heap.size W w' := fun W p hW hk =>
  worked_any W x _ p 20000 (by omega) hKT hk (fun W' hW' => hit W' (hW.trans (hW'.mono hW.size))) R hR
 have hTx : ∀ W p, Below w.heap.size w W → KIn W x p → Calls Tryz.prog 11 #[.pointer (some ⟨p, 0, none⟩), .string (bs (regT rg))] W fun v w' => v = .returned (.string src) ∧ Below W.heap.size W w' := fun W p hW hk => by
  have := htx p W hk (by omega) (fun W' hW' => hit W' (hW.trans (hW'.mono hW.size)))
  rw [← hsrc] at this; exact this
 have hTo : ∀ W, Below w.heap.size w W → Calls Tryz.prog 9 #[.pointer (some ⟨W.heap.size, 0, none⟩)] (W.alloc (.cells (kvV n (.pointer none) (.pointer none)) 29 (0, 0))) fun v w' => v = .returned (.string (bs (decDigits n))) ∧ Below W.heap.size W w' := fun W hW => by
  have hal := below_alZ (Below.refl _ W) (.cells (kvV n (.pointer none) (.pointer none)) 29 (0, 0))
  refine Calls.mono (ktold_any (.n n) .n W.heap.size _ (show n ≤ 9999 by omega) (by simp [Ty.size]) (blk_new _ _) (fun W' hW' => hit W' (hW.trans ((hal.trans (hW'.mono hal.size)).mono hW.size)))) ?_
  rintro v w' ⟨rfl, hb⟩
  exact ⟨rfl, hal.trans (hb.mono hal.size)⟩
 have h12 : R.2.e = 0 ∨ R.2.e = 12 := by rw [hR]; exact ev_e12 20000 (x.pt []) [] ⟨0, 0, 0⟩ (Or.inl rfl)
 have zd : (bs (decDigits n)).size ≤ 3 := by rw [bs_size]; exact hd3
 have zh : (ByteArray.mk #[32, 35]).size = 2 := rfl
 have HBD : Hid _ := hbd
 have HPK : Hid _ := hpk
 have HRU : Hid _ := hRu
 have HVE : Hid _ := hVe
 have HWK : Hid _ := hWk
 have HTX : Hid _ := hTx
 have HTO : Hid _ := hTo
 have HRT : Hid _ := hregT
 clear hbd hKT hlen hprs hpe hchk hev hplen hpk htx hsl hss hit hR hE hRu hVe hWk hTx hTo h htab hsrc ht hrg hregT hwt hall hnp hrv hrl hrok hrgd hpl2 hd3
 rcases h12 with he | he
 ·obtain ⟨S, a, b, c, d, hV⟩ := evalV_agg R
  rw [hV] at HRU HWK
  rw [he] at HRU
  rw [show decide (R.2.e = 0) = true by simp [he]] at HWK
  have HSM : Hid _ := fun W => ksame_any S a b c d W
  clear hV he
  go_enter Tryz.func3, Tryz.ntmps3
  go_wp2_with fail
  refine Calls.mono HBD.out ?_
  rintro _ w1 ⟨p, rfl, hb1, hk1⟩
  have HB1 : Hid _ := hb1
  have HK1 : Hid _ := hk1
  clear hb1 hk1 HBD
  go_wp2_with fail
  refine Calls.mono (HPK.out _) ?_
  rintro _ w1 ⟨rfl, rfl⟩
  go_wp2_with fail
  refine Calls.mono (HTO.out w1 HB1.out) ?_
  rintro _ w2 ⟨rfl, hb2⟩
  have HB2 : Hid _ := HB1.out.trans (hb2.mono HB1.out.size)
  have HK2 : Hid _ := HK1.out.below hb2
  clear hb2 HTO HB1 HK1
  go_wp2_with fail
  rw [HRT.out]
  refine Calls.mono (HTX.out w2 p HB2.out HK2.out) ?_
  rintro _ w3 ⟨rfl, hb3⟩
  have HB3 : Hid _ := HB2.out.trans (hb3.mono HB2.out.size)
  have HK3 : Hid _ := HK2.out.below hb3
  clear hb3 HTX HB2 HK2
  go_wp2_with fail
  refine Calls.mono (HVE.out _) ?_
  rintro _ w4 ⟨rfl, hb4⟩
  have HB4 : Hid _ := HB3.out.trans (hb4.mono HB3.out.size)
  have HK4 : Hid _ := HK3.out.below hb4
  clear hb4 HVE HB3 HK3
  go_wp2_with fail
  refine Calls.mono (HRU.out w4 HB4.out) ?_
  rintro _ w5 ⟨rfl, hb5⟩
  have hB5 := HB4.out.trans (hb5.mono HB4.out.size)
  have hal := below_alZ (Below.refl _ w5) (.cells #[.string S, .int .i64 a, .int .i64 b, .int .i64 c, .int .i64 d] 35 (0, 0))
  have HB5 : Hid _ := hB5.alloc hB5.size (.cells #[.string S, .int .i64 a, .int .i64 b, .int .i64 c, .int .i64 d] 35 (0, 0))
  have HQ5 : Hid _ := blk_new w5 (.cells #[.string S, .int .i64 a, .int .i64 b, .int .i64 c, .int .i64 d] 35 (0, 0))
  have HK5 : Hid _ := (HK4.out.below hb5).below hal
  clear hb5 hB5 hal HRU HB4 HK4
  go_wp2_with fail
  refine Calls.mono (HWK.out _ p HB5.out HK5.out) ?_
  rintro _ w6 ⟨rfl, hb6⟩
  have hB6 := HB5.out.trans (hb6.mono HB5.out.size)
  have hq6 := (hb6.block _ (blk_lt HQ5.out)).trans HQ5.out
  obtain ⟨s0, s1, s2, s3, s4⟩ := res_cells hq6
  have hql := blk_lt hq6
  have HB6 : Hid _ := hB6.alloc hB6.size (.cells #[.string S, .int .i64 a, .int .i64 b, .int .i64 c, .int .i64 d] 35 (0, 0))
  clear hb6 hB6 HWK HB5 HQ5 HK5 hq6
  generalize w5.heap.size = Q at *
  go_wp2_with fail
  refine Calls.mono (HSM.out _) ?_
  rintro _ w7 ⟨rfl, hb7⟩
  have HB7 : Hid _ := HB6.out.trans (hb7.mono HB6.out.size)
  clear hb7 HB6 HSM
  go_wp2
  go_ret
  exact ⟨rfl, HB7.out⟩
 ·have hV : evalV R = .agg #[.string ⟨#[]⟩, .int .i64 0, .int .i64 0, .int .i64 0, .int .i64 0] := by unfold evalV; rw [if_pos (by omega)]
  rw [hV] at HRU HWK
  rw [he] at HRU
  rw [show decide (R.2.e = 0) = false by simp [he]] at HWK
  clear hV he
  go_enter Tryz.func3, Tryz.ntmps3
  go_wp2_with fail
  refine Calls.mono HBD.out ?_
  rintro _ w1 ⟨p, rfl, hb1, hk1⟩
  have HB1 : Hid _ := hb1
  have HK1 : Hid _ := hk1
  clear hb1 hk1 HBD
  go_wp2_with fail
  refine Calls.mono (HPK.out _) ?_
  rintro _ w1 ⟨rfl, rfl⟩
  go_wp2_with fail
  refine Calls.mono (HTO.out w1 HB1.out) ?_
  rintro _ w2 ⟨rfl, hb2⟩
  have HB2 : Hid _ := HB1.out.trans (hb2.mono HB1.out.size)
  have HK2 : Hid _ := HK1.out.below hb2
  clear hb2 HTO HB1 HK1
  go_wp2_with fail
  rw [HRT.out]
  refine Calls.mono (HTX.out w2 p HB2.out HK2.out) ?_
  rintro _ w3 ⟨rfl, hb3⟩
  have HB3 : Hid _ := HB2.out.trans (hb3.mono HB2.out.size)
  have HK3 : Hid _ := HK2.out.below hb3
  clear hb3 HTX HB2 HK2
  go_wp2_with fail
  refine Calls.mono (HVE.out _) ?_
  rintro _ w4 ⟨rfl, hb4⟩
  have HB4 : Hid _ := HB3.out.trans (hb4.mono HB3.out.size)
  have HK4 : Hid _ := HK3.out.below hb4
  clear hb4 HVE HB3 HK3
  go_wp2_with fail
  refine Calls.mono (HRU.out w4 HB4.out) ?_
  rintro _ w5 ⟨rfl, hb5⟩
  have hB5 := HB4.out.trans (hb5.mono HB4.out.size)
  have hal := below_alZ (Below.refl _ w5) res0
  have HB5 : Hid _ := hB5.alloc hB5.size res0
  have HK5 : Hid _ := (HK4.out.below hb5).below hal
  clear hb5 hB5 hal HRU HB4 HK4
  go_wp2_with fail
  refine Calls.mono (HWK.out _ p HB5.out HK5.out) ?_
  rintro _ w6 ⟨rfl, hb6⟩
  have hB6 := HB5.out.trans (hb6.mono HB5.out.size)
  have HB6 : Hid _ := hB6.alloc hB6.size res0
  clear hb6 hB6 HWK HB5 HK5
  go_wp2
  go_ret
  exact ⟨rfl, HB6.out⟩
end Go.Proofs.YtpicaknklgccoabGreatDoor
