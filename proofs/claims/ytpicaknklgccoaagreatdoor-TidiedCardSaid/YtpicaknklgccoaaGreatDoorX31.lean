import Derived.Test.YtpicaknklgccoaaGreatDoorX30
namespace Go.Proofs.YtpicaknklgccoaaGreatDoor
open Go.RowKit
def layE (ns : List NR) (n0 : NR) : List Nat := shE [] (List.range n0.beh) ns
def layF (e : PT) (ns : List NR) (n0 : NR) : List Nat := firstsL (layE ns n0) (opNs ns (opn e 0))
def layR (e : PT) (ns : List NR) (n0 : NR) : List Int := regsL (layE ns n0) (layF e ns n0) ns
def layT (e : PT) (ns : List NR) (n0 : NR) : List Ty := tyRun [] (rgdN (layE ns n0) (layF e ns n0) ns)
def layN (e : PT) (ns : List NR) (n0 : NR) : List Int := newsL (layT e ns n0) ns n0 (layF e ns n0).length
structure Nds (e : PT) (ns : List NR) (n0 : NR) : Prop where
 na : NA [] e 0 ns
 last : ns[ns.length - 1]? = some n0
 beh : n0.beh ≤ 3000
 at_ : ∀ n ∈ ns, n.at_ < n0.beh
 pos : ∃ lo hi, PosN e ns lo hi
mutual
theorem PosN.all : ∀ {t : PT} {ns : List NR} {lo hi : Nat}, PosN t ns lo hi → ∀ n ∈ ns, lo ≤ n.at_ ∧ n.at_ < hi
 | .num p _, ns, lo, hi, h, n, hn => by simp only [PosN] at h; obtain ⟨m, rfl, h1, h2, h3, h4⟩ := h; simp only [List.mem_singleton] at hn; subst hn; omega
 | .name p _, ns, lo, hi, h, n, hn => by simp only [PosN] at h; obtain ⟨m, rfl, h1, h2, h3, h4⟩ := h; simp only [List.mem_singleton] at hn; subst hn; omega
 | .node p _ _ _ kids, ns, lo, hi, h, n, hn => by
  simp only [PosN] at h
  obtain ⟨ks, m, rfl, h1, h2, h3, h4, h5⟩ := h
  rcases List.mem_append.1 hn with hn | hn
  ·have := PosNs.all h3 n hn; omega
  ·simp only [List.mem_singleton] at hn; subst hn; omega
theorem PosNs.all : ∀ {ts : List PT} {ns : List NR} {lo hi : Nat}, PosNs ts ns lo hi → ∀ n ∈ ns, lo ≤ n.at_ ∧ n.at_ < hi
 | [], ns, lo, hi, h, n, hn => by simp only [PosNs] at h; rw [h.1] at hn; simp at hn
 | t :: r, ns, lo, hi, h, n, hn => by
  simp only [PosNs] at h
  obtain ⟨a, c, mid, rfl, h1, h2⟩ := h
  have hl := h1.lt
  have hr := h2.le
  rcases List.mem_append.1 hn with hn | hn
  ·have := PosN.all h1 n hn; omega
  ·have := PosNs.all h2 n hn; omega
end
theorem posN_last {t : PT} {ns : List NR} {lo hi : Nat} (h : PosN t ns lo hi) : ∃ n0, ns[ns.length - 1]? = some n0 ∧ n0.beh ≤ hi ∧ ∀ n ∈ ns, n.at_ < n0.beh := by
 cases t with
 | num p s => simp only [PosN] at h; obtain ⟨m, rfl, h1, h2, h3, h4⟩ := h; exact ⟨m, rfl, h4, fun n hn => by simp only [List.mem_singleton] at hn; subst hn; omega⟩
 | name p s => simp only [PosN] at h; obtain ⟨m, rfl, h1, h2, h3, h4⟩ := h; exact ⟨m, rfl, h4, fun n hn => by simp only [List.mem_singleton] at hn; subst hn; omega⟩
 | node p k nm rg kids =>
  simp only [PosN] at h
  obtain ⟨ks, m, rfl, h1, h2, h3, h4, h5⟩ := h
  refine ⟨m, by simp, h5, fun n hn => ?_⟩
  rcases List.mem_append.1 hn with hn | hn
  ·exact (h3.all n hn).2
  ·simp only [List.mem_singleton] at hn; subst hn; omega
theorem firsts_prs (E : List Nat) (ns : List NR) : ∀ op : List Int, (firstsL E (opNs ns op)).length ≤ (op.filterMap (pairAt ns)).length
 | [] => by simp [opNs, firstsL]
 | x :: r => by
  have ih := firsts_prs E ns r
  unfold firstsL at ih ⊢
  simp only [opNs, List.map_cons] at ih ⊢
  rw [List.filter_cons, List.filterMap_cons]
  simp only [List.length_map] at ih ⊢
  cases h : ns[x.toNat]? with
  | none =>
   have hx : pairAt ns x = none := by unfold pairAt; rw [h]
   have h4 : (nr0.form == 4 && fst' E nr0.at_ == nr0.at_) = false := by simp [nr0]
   rw [hx, Option.getD_none, h4]
   exact ih
  | some n =>
   rw [Option.getD_some]
   by_cases h4 : n.form = 4
   ·have hx : pairAt ns x = some n.at_ := by unfold pairAt; rw [h]; simp only; rw [if_pos h4]
    rw [hx]
    simp only [List.length_cons]
    split
    ·simp only [List.length_cons]; omega
    ·omega
   ·have hx : pairAt ns x = none := by unfold pairAt; rw [h]; simp only; rw [if_neg h4]
    have h5 : (n.form == 4 && fst' E n.at_ == n.at_) = false := by simp [h4]
    rw [hx, h5]
    exact ih
theorem layF_len {e : PT} {ns : List NR} {n0 : NR} (h : NA [] e 0 ns) : (layF e ns n0).length ≤ e.prs := by
 have h1 := firsts_prs (layE ns n0) ns (opn e 0)
 rw [opn_pairs ns e [] 0 ns h (fun j _ => by rw [Nat.zero_add]), List.length_map, prl_len] at h1
 exact h1
theorem idxF_le (row : List Nat) (x : Nat) : -1 ≤ idxF row x ∧ idxF row x ≤ row.length := by
 unfold idxF
 cases h : row.findIdx? (· == x) with
 | some i => have := (List.findIdx?_eq_some_iff_getElem.1 h).1; simp only; omega
 | none => simp only; omega
theorem layR_bd (e : PT) (ns : List NR) (n0 : NR) (hl : (layF e ns n0).length ≤ 100) : (∀ i, rgV (layR e ns n0) i ≤ 9999) ∧ ∀ i, -1 ≤ rgV (layR e ns n0) i := by
 have key : ∀ i, -1 ≤ rgV (layR e ns n0) i ∧ rgV (layR e ns n0) i ≤ 100 := fun i => by
  unfold rgV layR regsL
  rw [List.getElem?_map]
  cases ns[i]? with
  | none => simp
  | some n =>
   simp only [Option.map_some, Option.getD_some]
   split
   ·have := idxF_le (layF e ns n0) (fst' (layE ns n0) n.at_); omega
   ·omega
 exact ⟨fun i => by have := key i; omega, fun i => (key i).1⟩
theorem rgdN_drop (E fs : List Nat) (ns : List NR) (k : Nat) (n : NR) (r : Int) (hn : ns[k]? = some n) (hr : (regsL E fs ns)[k]? = some r) : (rgdN E fs ns).drop k = setR n r :: (rgdN E fs ns).drop (k + 1) := by
 have hk : k < (rgdN E fs ns).length := by unfold rgdN; rw [List.length_map]; exact (List.getElem?_eq_some_iff.1 hn).1
 rw [List.drop_eq_getElem_cons hk]
 congr 1
 have h1 : (rgdN E fs ns)[k]? = some (rgdN E fs ns)[k] := List.getElem?_eq_getElem hk
 unfold rgdN regsL at *
 rw [List.getElem?_map, hn] at h1 hr
 simp only [Option.map_some, Option.some.injEq] at h1 hr
 rw [← h1, hr]
set_option maxRecDepth 100000 in
set_option maxHeartbeats 8000000 in
theorem leasePlace_ok (s : ByteArray) (hs : s.size ≤ 3000) (e : PT) (hp : PE false (tokens s.data.toList) e []) (hchk : chkAns e = (0, 0)) :
  ∃ ns n0, Nds e ns n0 ∧ Lay2 (layR e ns n0) (layN e ns n0) ns (layT e ns n0) ∧ ∀ w, Lib.TabIs Tryz.prog w "internal/strconv.uint64pow10" .u64 Lib.pow10Tab → Calls Tryz.prog 16 #[.string s] w fun v w' => v = .returned (.tuple #[.string (bs (e.wtx (layR e ns n0) (layN e ns n0) 0)), .int .i64 (0 : Nat)]) ∧ Below w.heap.size w w' := by
 obtain ⟨ns, hna, hpg⟩ := prog_yes (len := s.size) hp
 have hps := prog_pos (placed := false) (len := s.size) hp (tokens_okU s.data.toList)
 have hpg2 := hpg
 rw [hpg] at hps
 obtain ⟨n0, hlast, hbeh, hat⟩ := posN_last hps
 have hN : Nds e ns n0 := ⟨hna, hlast, by omega, hat, _, _, hps⟩
 have hwf := hp.wf
 have hc1 : (chkAns e).1 = 0 := by rw [hchk]
 obtain ⟨U, hwt, _⟩ := chk_WT hwf hc1
 obtain ⟨⟨hrgd, hnn⟩, _⟩ := PE.plain hp (tokens_tame _)
 have hta := (hp.tame (tokens_tame _)).1
 have hprs : e.prs ≤ 100 := by
  unfold chkAns at hc1
  split at hc1
  ·simp at hc1
  ·omega
 have hfl := layF_len (n0 := n0) hna
 have hL : Lay2 (layR e ns n0) (layN e ns n0) ns (layT e ns n0) ∧ SzOk [] (ns.map atR) ∧ SzOk [] (rgdN (layE ns n0) (layF e ns n0) ns) := lay2_of hwt hnn hna hat (by show (layF e ns n0).length ≤ 1000; omega)
 obtain ⟨hL2, hsz1, hsz2⟩ := hL
 refine ⟨ns, n0, hN, hL2, fun w htab => ?_⟩
 have hcnt := Study_len hp
 have hnl := hna.len
 obtain ⟨hb1, hb2⟩ := layR_bd e ns n0 (by omega)
 have hnn2 : (layN e ns n0).length ≤ 150 := by unfold layN newsL; rw [List.length_map, List.length_range]; omega
 have hrp := fun w => readPlain_pg s w hs e hp
 rw [hchk, hpg2] at hrp
 have hpr := fun (W : World) (x1 : Option Addr) (n1 c1 : Nat) (x2 : Option Addr) (n2 c2 : Nat) (hT : TreeIn W (.slice x1 n1 c1) (.slice x2 n2 c2) ns (opn e 0)) => pProgram_any W x1 n1 c1 x2 n2 c2 ns (opn e 0) hT (op_ok hna) (by omega) (hna.small (fun _ h => by simp at h) (by omega)) n0 hlast (by omega) hat hsz1 (layE ns n0) (layF e ns n0) rfl rfl (rgdN (layE ns n0) (layF e ns n0) ns) (fun k n r hn hr => ⟨rgdN_drop _ _ ns k n r hn hr, fun h4 => by
  have h1 := (hL2.pr k n hn).1 h4
  have h2 : rgV (layR e ns n0) k = r := by unfold rgV layR; rw [hr]; rfl
  rw [h2] at h1; exact h1.1⟩) (by unfold rgdN; rw [List.length_map]) hsz2
 have hwp := fun (W : World) (hb : Below w.heap.size w W) (x1 : Option Addr) (n1 c1 : Nat) (x2 : Option Addr) (n2 c2 : Nat) (y1 : Option Addr) (m1 d1 : Nat) (y2 : Option Addr) (m2 d2 : Nat) (hT : TreeIn W (.slice x1 n1 c1) (.slice x2 n2 c2) ns (opn e 0)) (hL : LyIn W ⟨.slice y1 m1 d1, .slice y2 m2 d2, layR e ns n0, layN e ns n0⟩) => Placed_any W y1 m1 d1 y2 m2 d2 (layR e ns n0) (layN e ns n0) hL ⟨hnn2, hb1⟩ hb2 (by unfold layR regsL; rw [List.length_map]; omega) x1 n1 c1 x2 n2 c2 ns (opn e 0) e hT (Lib.tabBelow_of_tabIs htab W hb) hna.shows0 hta hwf hnl.symm (by omega)
 unfold treeV at hrp hpr hwp
 have HRP : Hid _ := hrp
 have HPR : Hid (∀ (W : World) (x1 : Option Addr) (n1 c1 : Nat) (x2 : Option Addr) (n2 c2 : Nat), TreeIn W (.slice x1 n1 c1) (.slice x2 n2 c2) ns (opn e 0) → Calls Tryz.prog 35 #[.agg #[.slice x1 n1 c1, .slice x2 n2 c2]] W fun v w' => ∃ y1 m1 d1 y2 m2 d2, v = .returned (.agg #[.slice y1 m1 d1, .slice y2 m2 d2]) ∧ LyIn w' ⟨.slice y1 m1 d1, .slice y2 m2 d2, layR e ns n0, layN e ns n0⟩ ∧ Below W.heap.size W w') := hpr
 have HWP : Hid _ := hwp
 generalize e.wtx (layR e ns n0) (layN e ns n0) 0 = TX at *
 generalize layR e ns n0 = regs at *
 generalize layN e ns n0 = news at *
 clear hp hps hpg hpg2 hlast hbeh hat hN hwf hc1 hwt hrgd hnn hta hprs hfl hL2 hsz1 hsz2 hcnt hnl hb1 hb2 hnn2 hrp hpr hwp htab hchk hna
 go_enter Tryz.func16, Tryz.ntmps16
 go_wp2_with fail
 refine Calls.mono (HRP.out _) ?_
 rintro _ w1 ⟨x1, n1, c1, x2, n2, c2, ns', rfl, hb1, hT1, _, hns⟩
 have hns' : ns' = ns := hns.symm
 subst hns'
 have hA : Below w.heap.size w (w1.alloc (.cells #[.slice x1 n1 c1, .slice x2 n2 c2] 59)) := hb1.alloc hb1.size _
 have hT2 := hT1.below (show Below w1.heap.size w1 (w1.alloc (.cells #[.slice x1 n1 c1, .slice x2 n2 c2] 59)) from (Below.refl _ _).alloc (Nat.le_refl _) _)
 have hpc := HPR.out _ x1 n1 c1 x2 n2 c2 hT2
 have hk := blk_new w1 (.cells #[.slice x1 n1 c1, .slice x2 n2 c2] 59 (0, 0))
 have HT2 : Hid _ := hT2
 have HA : Hid _ := hA
 have HK : Hid _ := hk
 clear hb1 hT1 hA hT2 hk hns HRP HPR
 go_wp2_with fail
 refine Calls.mono hpc ?_
 rintro _ w2 ⟨y1, m1, d1, y2, m2, d2, rfl, hL2, hb2⟩
 have hB2 := HA.out.trans (hb2.mono HA.out.size)
 have hal : Below w2.heap.size w2 (w2.alloc (.cells #[.slice y1 m1 d1, .slice y2 m2 d2] 73)) := (Below.refl _ _).alloc (Nat.le_refl _) _
 have hB3 : Below w.heap.size w (w2.alloc (.cells #[.slice y1 m1 d1, .slice y2 m2 d2] 73)) := hB2.alloc hB2.size _
 have hwc := HWP.out _ hB3 x1 n1 c1 x2 n2 c2 y1 m1 d1 y2 m2 d2 ((HT2.out.below hb2).below hal) (hL2.below hal)
 have hk2 := (hb2.block _ (blk_lt HK.out)).trans HK.out
 have a0 : w2.cell? ⟨w1.heap.size, 0, none⟩ = some (.slice x1 n1 c1) := by rw [blk_cell hk2]; rfl
 have a1 : w2.cell? ⟨w1.heap.size, 1, none⟩ = some (.slice x2 n2 c2) := by rw [blk_cell hk2]; rfl
 have al := blk_lt hk2
 have an := Nat.ne_of_lt al
 have HB3 : Hid _ := hB3
 clear hL2 hb2 hB2 hal hB3 hk2 hpc HT2 HA HK HWP
 go_wp2_with fail
 refine Calls.mono hwc ?_
 rintro _ w3 ⟨rfl, hb3⟩
 have HB4 : Hid _ := HB3.out.trans (hb3.mono HB3.out.size)
 clear hb3 hwc HB3 a0 a1 al an
 go_wp2
 refine bodyPost_ret (v := .tuple #[.string (bs TX), .int .i64 0]) (by simp [results, Tryz.results16, go_sem]) rfl ⟨rfl, HB4.out⟩
open Go.Lib (decDigits)
mutual
theorem np_ptx : ∀ e : PT, e.np.ptx = e.ptx
 | .num _ _ => rfl
 | .name _ _ => rfl
 | .node p k nm rg kids => by simp only [PT.ptx, PT.np, npL_ptx kids]
theorem npL_ptx : ∀ l : List PT, ptxL (npL l) = ptxL l
 | [] => rfl
 | t :: r => by simp only [ptxL, npL, np_ptx t, npL_ptx r]
end
def sh (k : Nat) (st : ESt) : ESt := { st with steps := st.steps + k }
mutual
theorem np_okY {b : Bool} : ∀ e : PT, e.np.ok b → e.ok b
 | .num _ _, h => h
 | .name _ _, h => h
 | .node _ k nm rg kids, h => by
  simp only [PT.np, PT.ok, npL_lenY] at h ⊢
  exact ⟨h.1, h.2.1, h.2.2.1, h.2.2.2.1, npL_okY kids h.2.2.2.2⟩
theorem npL_okY {b : Bool} : ∀ l : List PT, okL b (npL l) → okL b l
 | [], h => h
 | t :: r, h => by
  simp only [npL, okL] at h ⊢
  exact ⟨np_okY t h.1, npL_okY r h.2⟩
theorem npL_lenY : ∀ l : List PT, (npL l).length = l.length
 | [] => rfl
 | t :: r => by simp only [npL, List.length_cons, npL_lenY r]
end
def cntR (news : List Int) (lo hi : Nat) : Nat := (news.filter (fun a => decide ((lo : Int) ≤ a) && decide (a < (hi : Int)))).length
theorem cntR_split (news : List Int) {a b c : Nat} (h1 : a ≤ b) (h2 : b ≤ c) : cntR news a c = cntR news a b + cntR news b c := by
 unfold cntR
 induction news with
 | nil => rfl
 | cons x r ih =>
  simp only [List.filter_cons]
  by_cases g1 : (a : Int) ≤ x
  ·by_cases g2 : x < (b : Int)
   ·have e1 : ¬ (b : Int) ≤ x := by omega
    have e2 : x < (c : Int) := by omega
    simp only [g1, g2, e1, e2, decide_true, decide_false, Bool.and_self, Bool.false_and, if_true, Bool.false_eq_true, if_false, List.length_cons]
    omega
   ·have e1 : (b : Int) ≤ x := by omega
    by_cases g3 : x < (c : Int)
    ·simp only [g1, g2, e1, g3, decide_true, decide_false, Bool.and_self, Bool.and_false, if_true, Bool.false_eq_true, if_false, List.length_cons]
     omega
    ·simp only [g1, g2, e1, g3, decide_true, decide_false, Bool.and_false, Bool.false_eq_true, if_false]
     exact ih
  ·have e1 : ¬ (b : Int) ≤ x := by omega
   simp only [g1, e1, decide_false, Bool.false_and, Bool.false_eq_true, if_false]
   exact ih
theorem cntR_one (news : List Int) (i : Nat) : cntR news i (i + 1) = clN news i := by
 unfold cntR clN
 congr 1
 apply List.filter_congr
 intro x _
 by_cases h : x = (i : Int)
 ·subst h; simp; omega
 ·have : (x == (i : Int)) = false := by rw [beq_eq_false_iff_ne]; exact h
  rw [this, Bool.and_eq_false_iff]
  by_cases g : (i : Int) ≤ x
  ·right; simp; omega
  ·left; simp; omega
theorem cntR_le (news : List Int) (lo hi : Nat) : cntR news lo hi ≤ news.length := List.length_filter_le _ _
theorem opT_cl (i : Int) : ∀ (l : List Int) (r : Nat), r + l.length ≤ 9999 → (opT l r i).length ≤ 11 * clN l i
 | [], _, _ => by simp [opT]
 | a :: l, r, h => by
  simp only [List.length_cons] at h
  have h1 := opT_cl i l (r + 1) (by omega)
  have h2 := opR_len r (by omega)
  unfold clN at h1 ⊢
  simp only [opT, List.length_append, List.filter_cons]
  by_cases e : a = i
  ·have : (a == i) = true := by simp [e]
   rw [if_pos e, this]
   simp only [if_true, List.length_cons]; omega
  ·have : (a == i) = false := by rw [beq_eq_false_iff_ne]; exact e
   rw [if_neg e, this]
   simp only [List.length_nil, Bool.false_eq_true, if_false]; omega
theorem joinT_more (k : Kw) (nm : List UInt8) : ∀ (l l' : List (List UInt8)) (i B : Nat), l.length = l'.length → (l.map List.length).sum ≤ (l'.map List.length).sum + B → (joinT k nm i l).length ≤ (joinT k nm i l').length + B
 | [], [], _, _, _, _ => by simp [joinT]
 | [], _ :: _, _, _, h, _ => by simp at h
 | _ :: _, [], _, _, h, _ => by simp at h
 | x :: r, y :: s, i, B, h, hb => by
  simp only [List.length_cons, Nat.add_right_cancel_iff] at h
  have key : ∀ (a b : List (List UInt8)) (j : Nat), a.length = b.length → (joinT k nm j a).length + (b.map List.length).sum = (joinT k nm j b).length + (a.map List.length).sum := by
   intro a
   induction a with
   | nil => intro b j hl; cases b with | nil => rfl | cons _ _ => simp at hl
   | cons u v ih =>
    intro b j hl
    cases b with
    | nil => simp at hl
    | cons w z =>
     have := ih z (j + 1) (by simpa using hl)
     simp only [joinT, List.map_cons, List.sum_cons, List.length_append, pieceT]
     simp only [List.length_cons] at *
     omega
  have := key (x :: r) (y :: s) i (by simp [h])
  omega
mutual
theorem ftx_more {regs news : List Int} (hr : ∀ i, rgV regs i ≤ 9999) (hn : news.length ≤ 150) {ns : List NR} (H : LyT regs ns) : ∀ (t : PT) (b : Nat), Shows ns t b → NoNew t → (t.ftx regs news b).length ≤ t.ptx.length + 6 * t.prs + 12 * cntR news b (b + t.cnt - 1)
 | .num _ _, _, _, _ => by simp only [PT.ftx, PT.ptx]; omega
 | .name _ _, _, _, _ => by simp only [PT.ftx, PT.ptx]; omega
 | .node p k nm rg kids, b, hs, hw => by
  cases hw with
  | node hk hw =>
  simp only [Shows] at hs
  obtain ⟨⟨n, hn1, hf, _⟩, hks⟩ := hs
  have h1 := wtxL_more hr hn H kids b hks hw
  have h2 : (rgT regs (b + cntL kids)).length ≤ 6 * (if k = .pair then 1 else 0) := by
   by_cases hp : k = .pair
   ·rw [if_pos hp]; exact rgT_len regs _ (hr _)
   ·have := (H _ _ hn1).2 (fun e => hp ((form4 k).1 (hf ▸ e)))
    unfold rgT
    rw [if_pos this]; simp
  have h3 := joinT_more k nm (wtxL regs news kids b) (ptxL kids) 0 _ (by rw [wtxL_length, ptxL_len]) h1
  simp only [PT.ftx, PT.ptx, if_neg hk, PT.prs, PT.cnt, List.length_cons, List.length_append, List.length_nil]
  rw [show b + (1 + cntL kids) - 1 = b + cntL kids by omega]
  omega
theorem wtxL_more {regs news : List Int} (hr : ∀ i, rgV regs i ≤ 9999) (hn : news.length ≤ 150) {ns : List NR} (H : LyT regs ns) : ∀ (ts : List PT) (b : Nat), ShowsL ns ts b → (∀ x ∈ ts, NoNew x) → ((wtxL regs news ts b).map List.length).sum ≤ ((ptxL ts).map List.length).sum + (6 * prsL ts + 12 * cntR news b (b + cntL ts))
 | [], b, _, _ => by simp [wtxL, ptxL]
 | t :: r, b, hs, hw => by
  simp only [ShowsL] at hs
  have h1 := ftx_more hr hn H t b hs.1 (hw t (by simp))
  have h2 := wtxL_more hr hn H r (b + t.cnt) hs.2 (fun x hx => hw x (by simp [hx]))
  have hc := cnt_pos' t
  have hidx : (((b + t.cnt : Nat) : Int) - 1) = ((b + t.cnt - 1 : Nat) : Int) := by omega
  have h3 := opT_cl ((b + t.cnt - 1 : Nat) : Int) news 0 (by omega)
  have h4 := cntR_one news (b + t.cnt - 1)
  rw [show b + t.cnt - 1 + 1 = b + t.cnt by omega] at h4
  have h5 := cntR_split news (a := b) (b := b + t.cnt - 1) (c := b + t.cnt) (by omega) (by omega)
  have h6 := cntR_split news (a := b) (b := b + t.cnt) (c := b + t.cnt + cntL r) (by omega) (by omega)
  simp only [wtxL, ptxL, List.map_cons, List.sum_cons, prsL, cntL, List.length_append, hidx, clT, List.length_replicate]
  rw [show b + (t.cnt + cntL r) = b + t.cnt + cntL r by omega]
  omega
end
theorem wtx_more {regs news : List Int} (hr : ∀ i, rgV regs i ≤ 9999) (hn : news.length ≤ 150) {ns : List NR} (H : LyT regs ns) (t : PT) (hs : Shows ns t 0) (hw : NoNew t) : (t.wtx regs news 0).length ≤ t.ptx.length + 6 * t.prs + 12 * news.length := by
 have h1 := wtxL_more hr hn H [t] 0 (by simp only [ShowsL, and_true]; exact hs) (by simpa using hw)
 have h2 := cntR_le news 0 (0 + cntL [t])
 simp only [wtxL, ptxL, List.map_cons, List.map_nil, List.sum_cons, List.sum_nil, prsL, Nat.add_zero] at h1
 unfold PT.wtx
 omega
theorem pt_ptx {rg : List UInt8} : ∀ {vs : List Nat} {x : KE} {t : Nat}, KT vs x t → (x.pt rg).ptx = (x.pt []).tidy := by
 intro vs x t h
 induction h with
 | num h => simp [KE.pt, PT.ptx, PT.tidy, value_dec]
 | var _ => simp [KE.pt, PT.ptx, PT.tidy]
 | let_ _ _ _ _ ha hb => simp [KE.pt, PT.ptx, ptxL, PT.tidy, tidyL, regT, ha, hb]
 | if_ _ _ _ ha hb hc => simp [KE.pt, PT.ptx, ptxL, PT.tidy, tidyL, regT, ha, hb, hc]
 | loop _ _ _ _ ha hb hc => simp [KE.pt, PT.ptx, ptxL, PT.tidy, tidyL, regT, ha, hb, hc]
 | pair _ _ _ _ ha hb => simp [KE.pt, PT.ptx, ptxL, PT.tidy, tidyL, regT, ha, hb]
 | fst _ _ _ ha => simp [KE.pt, PT.ptx, ptxL, PT.tidy, tidyL, regT, ha]
 | snd _ _ _ ha => simp [KE.pt, PT.ptx, ptxL, PT.tidy, tidyL, regT, ha]
 | two hk _ _ ha hb => rcases hk with rfl | rfl | rfl <;> simp [KE.pt, PT.ptx, ptxL, PT.tidy, tidyL, regT, ha, hb]
mutual
theorem PosN.in_ : ∀ {t : PT} {ms : List NR} {lo hi : Nat}, PosN t ms lo hi → ∀ n ∈ ms, lo ≤ n.at_ ∧ n.at_ < n.beh ∧ n.beh ≤ hi
 | .num p _, ms, lo, hi, h, n, hn => by simp only [PosN] at h; obtain ⟨m, rfl, h1, h2, h3, h4⟩ := h; simp only [List.mem_singleton] at hn; subst hn; omega
 | .name p _, ms, lo, hi, h, n, hn => by simp only [PosN] at h; obtain ⟨m, rfl, h1, h2, h3, h4⟩ := h; simp only [List.mem_singleton] at hn; subst hn; omega
 | .node p _ _ _ kids, ms, lo, hi, h, n, hn => by
  simp only [PosN] at h
  obtain ⟨ks, m, rfl, h1, h2, h3, h4, h5⟩ := h
  rcases List.mem_append.1 hn with hn | hn
  ·have := PosNs.in_ h3 n hn; omega
  ·simp only [List.mem_singleton] at hn; subst hn; omega
theorem PosNs.in_ : ∀ {ts : List PT} {ms : List NR} {lo hi : Nat}, PosNs ts ms lo hi → ∀ n ∈ ms, lo ≤ n.at_ ∧ n.at_ < n.beh ∧ n.beh ≤ hi
 | [], ms, lo, hi, h, n, hn => by simp only [PosNs] at h; rw [h.1] at hn; simp at hn
 | t :: r, ms, lo, hi, h, n, hn => by
  simp only [PosNs] at h
  obtain ⟨a, c, mid, rfl, h1, h2⟩ := h
  have hl := h1.lt
  have hr := h2.le
  rcases List.mem_append.1 hn with hn | hn
  ·have := PosN.in_ h1 n hn; omega
  ·have := PosNs.in_ h2 n hn; omega
end
mutual
theorem PosN.len : ∀ {t : PT} {ms : List NR} {lo hi : Nat}, PosN t ms lo hi → ms.length = t.cnt
 | .num p _, ms, lo, hi, h => by simp only [PosN] at h; obtain ⟨m, rfl, _⟩ := h; rfl
 | .name p _, ms, lo, hi, h => by simp only [PosN] at h; obtain ⟨m, rfl, _⟩ := h; rfl
 | .node p _ _ _ kids, ms, lo, hi, h => by
  simp only [PosN] at h
  obtain ⟨ks, m, rfl, h1, h2, h3, h4, h5⟩ := h
  simp only [PT.cnt, List.length_append, List.length_singleton, PosNs.len h3]; omega
theorem PosNs.len : ∀ {ts : List PT} {ms : List NR} {lo hi : Nat}, PosNs ts ms lo hi → ms.length = cntL ts
 | [], ms, lo, hi, h => by simp only [PosNs] at h; rw [h.1]; rfl
 | t :: r, ms, lo, hi, h => by
  simp only [PosNs] at h
  obtain ⟨a, c, mid, rfl, h1, h2⟩ := h
  simp only [cntL, List.length_append, PosN.len h1, PosNs.len h2]
end
theorem posN_root {t : PT} {ns : List NR} {lo hi : Nat} (h : PosN t ns lo hi) (n0 : NR) (h0 : ns[ns.length - 1]? = some n0) : n0.at_ < n0.beh ∧ ∀ n ∈ ns, n0.at_ ≤ n.at_ ∧ n.beh ≤ n0.beh := by
 cases t with
 | num p s => simp only [PosN] at h; obtain ⟨m, rfl, h1, h2, h3, h4⟩ := h; simp at h0; subst h0; exact ⟨by omega, fun n hn => by simp only [List.mem_singleton] at hn; subst hn; omega⟩
 | name p s => simp only [PosN] at h; obtain ⟨m, rfl, h1, h2, h3, h4⟩ := h; simp at h0; subst h0; exact ⟨by omega, fun n hn => by simp only [List.mem_singleton] at hn; subst hn; omega⟩
 | node p k nm rg kids =>
  simp only [PosN] at h
  obtain ⟨ks, m, rfl, h1, h2, h3, h4, h5⟩ := h
  simp at h0
  subst h0
  refine ⟨by omega, fun n hn => ?_⟩
  rcases List.mem_append.1 hn with hn | hn
  ·have := h3.in_ n hn; omega
  ·simp only [List.mem_singleton] at hn; subst hn; omega
mutual
theorem np_cnt' : ∀ t : PT, t.np.cnt = t.cnt
 | .num _ _ => rfl
 | .name _ _ => rfl
 | .node _ _ _ _ kids => by simp only [PT.np, PT.cnt, npL_cnt' kids]
theorem npL_cnt' : ∀ l : List PT, cntL (npL l) = cntL l
 | [] => rfl
 | t :: r => by simp only [npL, cntL, np_cnt' t, npL_cnt' r]
end
theorem npL_parts : ∀ (l : List PT) (b : Nat), partsL (npL l) b = partsL l b
 | [], _ => rfl
 | t :: r, b => by simp only [npL, partsL, np_cnt' t, npL_parts r]
mutual
theorem np_opn : ∀ (t : PT) (b : Nat), opn t.np b = opn t b
 | .num _ _, _ => rfl
 | .name _ _, _ => rfl
 | .node _ _ _ _ kids, b => by simp only [PT.np, opn, npL_opn kids, npL_cnt' kids]
theorem npL_opn : ∀ (l : List PT) (b : Nat), opnL (npL l) b = opnL l b
 | [], _ => rfl
 | t :: r, b => by simp only [npL, opnL, np_cnt' t, np_opn t, npL_opn r]
end
mutual
theorem np_ftx (R N : List Int) : ∀ (t : PT) (b : Nat), t.np.ftx R N b = t.ftx R N b
 | .num _ _, _ => by simp [PT.np, PT.ftx]
 | .name _ _, _ => by simp [PT.np, PT.ftx]
 | .node _ _ _ _ kids, b => by simp only [PT.np, PT.ftx, npL_wtx R N kids, npL_cnt' kids]
theorem npL_wtx (R N : List Int) : ∀ (l : List PT) (b : Nat), wtxL R N (npL l) b = wtxL R N l b
 | [], _ => rfl
 | t :: r, b => by simp only [npL, wtxL, np_cnt' t, np_ftx R N t, npL_wtx R N r]
end
theorem np_wtx (R N : List Int) (t : PT) (b : Nat) : t.np.wtx R N b = t.wtx R N b := by unfold PT.wtx; rw [np_cnt', np_ftx]
def strip (n : NR) : NR := { n with at_ := 0, beh := 0 }
def OkP (x y : NR × NR) : Prop := (x.1.at_ < y.1.at_ ↔ x.2.at_ < y.2.at_) ∧ (x.1.at_ ≤ y.1.at_ ∧ y.1.beh ≤ x.1.beh ↔ x.2.at_ ≤ y.2.at_ ∧ y.2.beh ≤ x.2.beh)
def IsoL (L : List (NR × NR)) : Prop := (∀ x ∈ L, strip x.1 = strip x.2) ∧ ∀ x ∈ L, ∀ y ∈ L, OkP x y
theorem np_num {p : Nat} {s : List UInt8} {t : PT} (h : (PT.num p s).np = t.np) : ∃ q, t = .num q s := by
 cases t with
 | num q u => simp only [PT.np, PT.num.injEq, true_and] at h; exact ⟨q, by rw [h]⟩
 | name q u => simp [PT.np] at h
 | node q k nm rg kids => simp [PT.np] at h
theorem np_name {p : Nat} {s : List UInt8} {t : PT} (h : (PT.name p s).np = t.np) : ∃ q, t = .name q s := by
 cases t with
 | num q u => simp [PT.np] at h
 | name q u => simp only [PT.np, PT.name.injEq, true_and] at h; exact ⟨q, by rw [h]⟩
 | node q k nm rg kids => simp [PT.np] at h
theorem np_node {p : Nat} {k : Kw} {nm rg : List UInt8} {kids : List PT} {t : PT} (h : (PT.node p k nm rg kids).np = t.np) : ∃ q kids', t = .node q k nm rg kids' ∧ npL kids = npL kids' := by
 cases t with
 | num q u => simp [PT.np] at h
 | name q u => simp [PT.np] at h
 | node q k' nm' rg' kids' =>
  simp only [PT.np, PT.node.injEq, true_and] at h
  obtain ⟨rfl, rfl, rfl, h⟩ := h
  exact ⟨q, kids', rfl, h⟩
theorem npL_cons {t : PT} {r l : List PT} (h : npL (t :: r) = npL l) : ∃ t' r', l = t' :: r' ∧ t.np = t'.np ∧ npL r = npL r' := by cases l with
 | nil => simp [npL] at h
 | cons a b => simp only [npL, List.cons.injEq] at h; exact ⟨a, b, rfl, h.1, h.2⟩
theorem zip_in2 {a b : List NR} {x : NR × NR} (h : x ∈ a.zip b) : x.1 ∈ a ∧ x.2 ∈ b := List.of_mem_zip h
mutual
theorem iso_of : ∀ (t t' : PT) (sc : Sc) (b : Nat) (ns ns' : List NR) (lo hi lo' hi' : Nat), t.np = t'.np → NA sc t b ns → NA sc t' b ns' → PosN t ns lo hi → PosN t' ns' lo' hi' → IsoL (ns.zip ns')
 | .num p s, t', sc, b, ns, ns', lo, hi, lo', hi', h, hn, hn', _, _ => by
  obtain ⟨q, rfl⟩ := np_num h
  simp only [NA] at hn hn'
  subst hn; subst hn'
  refine ⟨fun x hx => ?_, fun x hx y hy => ?_⟩
  ·simp at hx; subst hx; rfl
  ·simp at hx hy; subst hx; subst hy; simp [OkP]
 | .name p s, t', sc, b, ns, ns', lo, hi, lo', hi', h, hn, hn', _, _ => by
  obtain ⟨q, rfl⟩ := np_name h
  simp only [NA] at hn hn'
  subst hn; subst hn'
  refine ⟨fun x hx => ?_, fun x hx y hy => ?_⟩
  ·simp at hx; subst hx; rfl
  ·simp at hx hy; subst hx; subst hy; simp [OkP]
 | .node p k nm rg kids, t', sc, b, ns, ns', lo, hi, lo', hi', h, hn, hn', hp, hp' => by
  obtain ⟨q, kids', rfl, hk⟩ := np_node h
  simp only [NA] at hn hn'
  obtain ⟨ks, be, g1, rfl⟩ := hn
  obtain ⟨ks', be', g1', rfl⟩ := hn'
  simp only [PosN] at hp hp'
  obtain ⟨k1, m, e0, p1, p2, p3, p4, p5⟩ := hp
  obtain ⟨k1', m', e0', p1', p2', p3', p4', p5'⟩ := hp'
  obtain ⟨rfl, e1⟩ := List.append_inj' e0 rfl
  obtain ⟨rfl, e1'⟩ := List.append_inj' e0' rfl
  simp only [List.cons.injEq, and_true] at e1 e1'
  have hpa : partsL kids b = partsL kids' b := by rw [← npL_parts kids, hk, npL_parts]
  have hl : ks.length = ks'.length := by rw [g1.len, g1'.len, ← npL_cnt' kids, hk, npL_cnt']
  obtain ⟨i1, i2⟩ := isoL_of kids kids' sc nm (bodK k) b ks ks' _ _ _ _ hk g1 g1' p3 p3'
  rw [List.zip_append hl]
  have hin := fun x (hx : x ∈ ks.zip ks') => And.intro (p3.in_ x.1 (zip_in2 hx).1) (p3'.in_ x.2 (zip_in2 hx).2)
  refine ⟨fun x hx => ?_, fun x hx y hy => ?_⟩
  ·rcases List.mem_append.1 hx with hx | hx
   ·exact i1 x hx
   ·simp only [List.zip_cons_cons, List.zip_nil_right, List.mem_singleton] at hx
    subst hx; simp only [strip, hpa]
  ·rw [e1, e1'] at hx hy
   rcases List.mem_append.1 hx with hx | hx
   ·rcases List.mem_append.1 hy with hy | hy
    ·exact i2 x hx y hy
    ·simp only [List.zip_cons_cons, List.zip_nil_right, List.mem_singleton] at hy
     subst hy
     have := hin x hx
     simp only [OkP]; omega
   ·simp only [List.zip_cons_cons, List.zip_nil_right, List.mem_singleton] at hx
    subst hx
    rcases List.mem_append.1 hy with hy | hy
    ·have := hin y hy
     simp only [OkP]; omega
    ·simp only [List.zip_cons_cons, List.zip_nil_right, List.mem_singleton] at hy
     subst hy
     simp only [OkP]; omega
theorem isoL_of : ∀ (l l' : List PT) (sc : Sc) (nm : List UInt8) (bs : List Bool) (b : Nat) (ns ns' : List NR) (lo hi lo' hi' : Nat), npL l = npL l' → NAs sc nm l bs b ns → NAs sc nm l' bs b ns' → PosNs l ns lo hi → PosNs l' ns' lo' hi' → IsoL (ns.zip ns')
 | [], l', sc, nm, bs, b, ns, ns', lo, hi, lo', hi', h, hn, hn', _, _ => by
  simp only [NAs] at hn
  rw [hn.2]
  exact ⟨fun x hx => by simp at hx, fun x hx => by simp at hx⟩
 | t :: r, l', sc, nm, [], b, ns, ns', lo, hi, lo', hi', h, hn, hn', _, _ => by simp [NAs] at hn
 | t :: r, l', sc, nm, c :: bs, b, ns, ns', lo, hi, lo', hi', h, hn, hn', hp, hp' => by
  obtain ⟨t', r', rfl, ht, hr⟩ := npL_cons h
  simp only [NAs] at hn hn'
  obtain ⟨a, d, g1, g2, rfl⟩ := hn
  obtain ⟨a', d', g1', g2', rfl⟩ := hn'
  simp only [PosNs] at hp hp'
  obtain ⟨a1, d1, mid, e0, p1, p2⟩ := hp
  obtain ⟨a1', d1', mid', e0', p1', p2'⟩ := hp'
  obtain ⟨rfl, rfl⟩ := List.append_inj e0 (by rw [g1.len, p1.len])
  obtain ⟨rfl, rfl⟩ := List.append_inj e0' (by rw [g1'.len, p1'.len])
  have hc : t.cnt = t'.cnt := by rw [← np_cnt' t, ht, np_cnt']
  rw [← hc] at g2'
  obtain ⟨i1, i2⟩ := iso_of t t' _ b a a' _ _ _ _ ht g1 g1' p1 p1'
  obtain ⟨j1, j2⟩ := isoL_of r r' sc nm bs (b + t.cnt) d d' _ _ _ _ hr g2 g2' p2 p2'
  rw [List.zip_append (by rw [g1.len, g1'.len, hc])]
  have hi1 := fun x (hx : x ∈ a.zip a') => And.intro (p1.in_ x.1 (zip_in2 hx).1) (p1'.in_ x.2 (zip_in2 hx).2)
  have hi2 := fun x (hx : x ∈ d.zip d') => And.intro (p2.in_ x.1 (zip_in2 hx).1) (p2'.in_ x.2 (zip_in2 hx).2)
  refine ⟨fun x hx => ?_, fun x hx y hy => ?_⟩
  ·rcases List.mem_append.1 hx with hx | hx
   ·exact i1 x hx
   ·exact j1 x hx
  ·rcases List.mem_append.1 hx with hx | hx
   ·rcases List.mem_append.1 hy with hy | hy
    ·exact i2 x hx y hy
    ·have := hi1 x hx
     have := hi2 y hy
     simp only [OkP]; omega
   ·rcases List.mem_append.1 hy with hy | hy
    ·have := hi2 x hx
     have := hi1 y hy
     simp only [OkP]; omega
    ·exact j2 x hx y hy
end
def LabP (L : List (NR × NR)) (r s : Nat) : Prop := ∃ x ∈ L, r = x.1.at_ ∧ s = x.2.at_
theorem LabP.lt {L : List (NR × NR)} (h : IsoL L) {r s r' s' : Nat} (hr : LabP L r r') (hs : LabP L s s') : r < s ↔ r' < s' := by
 obtain ⟨x, hx, rfl, rfl⟩ := hr
 obtain ⟨y, hy, rfl, rfl⟩ := hs
 exact (h.2 x hx y hy).1
theorem LabP.eq {L : List (NR × NR)} (h : IsoL L) {r s r' s' : Nat} (hr : LabP L r r') (hs : LabP L s s') : r = s ↔ r' = s' := by
 have h1 := hr.lt h hs
 have h2 := hs.lt h hr
 omega
def RelY (L : List (NR × NR)) : Ty → Ty → Prop
 | .n, .n => True
 | .p r a b, .p s c d => LabP L r s ∧ RelY L a c ∧ RelY L b d
 | _, _ => False
theorem RelY.eq {L : List (NR × NR)} (h : IsoL L) : ∀ {t t' u u' : Ty}, RelY L t t' → RelY L u u' → (t = u ↔ t' = u')
 | .n, .n, .n, .n, _, _ => by simp
 | .n, .n, .p _ _ _, .p _ _ _, _, _ => by simp
 | .p _ _ _, .p _ _ _, .n, .n, _, _ => by simp
 | .p r a b, .p r' a' b', .p s c d, .p s' c' d', h1, h2 => by
  simp only [RelY] at h1 h2
  rw [Ty.p.injEq, Ty.p.injEq, h1.1.eq h h2.1, RelY.eq h h1.2.1 h2.2.1, RelY.eq h h1.2.2 h2.2.2]
 | .n, .p _ _ _, _, _, h1, _ => by simp [RelY] at h1
 | .p _ _ _, .n, _, _, h1, _ => by simp [RelY] at h1
 | _, _, .n, .p _ _ _, _, h2 => by simp [RelY] at h2
 | _, _, .p _ _ _, .n, _, h2 => by simp [RelY] at h2
theorem RelY.fst {L : List (NR × NR)} : ∀ {t t' : Ty}, RelY L t t' → RelY L (fstT t) (fstT t')
 | .n, .n, _ => by simp [fstT, RelY]
 | .p _ _ _, .p _ _ _, h => by simp only [RelY] at h; exact h.2.1
 | .n, .p _ _ _, h => by simp [RelY] at h
 | .p _ _ _, .n, h => by simp [RelY] at h
theorem RelY.snd {L : List (NR × NR)} : ∀ {t t' : Ty}, RelY L t t' → RelY L (sndT t) (sndT t')
 | .n, .n, _ => by simp [sndT, RelY]
 | .p _ _ _, .p _ _ _, h => by simp only [RelY] at h; exact h.2.2
 | .n, .p _ _ _, h => by simp [RelY] at h
 | .p _ _ _, .n, h => by simp [RelY] at h
def Sim2 (L : List (NR × NR)) (E E' : List Nat) : Prop := ∀ r r', LabP L r r' → LabP L (fst' E r) (fst' E' r')
def Bds (L : List (NR × NR)) (n n' : Nat) : Prop := ∀ r r', LabP L r r' → r < n ∧ r' < n'
theorem Sim2.join {L : List (NR × NR)} (h : IsoL L) {E E' : List Nat} (hs : Sim2 L E E') (hb : Bds L E.length E'.length) {r r' s s' : Nat} (hr : LabP L r r') (hq : LabP L s s') : Sim2 L (joinF E r s) (joinF E' r' s') := fun i i' hi => by
 rw [fst_join E r s (hb _ _ hr).1 (hb _ _ hq).1, fst_join E' r' s' (hb _ _ hr).2 (hb _ _ hq).2]
 have a := hs _ _ hr
 have b := hs _ _ hq
 have c := hs _ _ hi
 have l1 := a.lt h b
 unfold mrg
 by_cases e : fst' E r < fst' E s
 ·have e' := l1.1 e
  rw [Nat.max_eq_right (by omega), Nat.min_eq_left (by omega), Nat.max_eq_right (by omega), Nat.min_eq_left (by omega)]
  have := c.eq h b
  by_cases q : fst' E i = fst' E s
  ·rw [if_pos q, if_pos (this.1 q)]; exact a
  ·rw [if_neg q, if_neg (fun z => q (this.2 z))]; exact c
 ·have e' : ¬ fst' E' r' < fst' E' s' := fun z => e (l1.2 z)
  rw [Nat.max_eq_left (by omega), Nat.min_eq_right (by omega), Nat.max_eq_left (by omega), Nat.min_eq_right (by omega)]
  have := c.eq h a
  by_cases q : fst' E i = fst' E r
  ·rw [if_pos q, if_pos (this.1 q)]; exact b
  ·rw [if_neg q, if_neg (fun z => q (this.2 z))]; exact c
theorem Sim2.mtch {L : List (NR × NR)} (h : IsoL L) : ∀ {t t' u u' : Ty} {E E' : List Nat}, Sim2 L E E' → Bds L E.length E'.length → RelY L t t' → RelY L u u' → Sim2 L (matchT E t u) (matchT E' t' u')
 | .p r a b, .p r' a' b', .p s c d, .p s' c' d', E, E', hs, hb, h1, h2 => by
  have he := RelY.eq h h1 h2
  simp only [RelY] at h1 h2
  simp only [matchT]
  by_cases e : Ty.p r a b = Ty.p s c d
  ·rw [if_pos e, if_pos (he.1 e)]; exact hs
  ·rw [if_neg e, if_neg (fun z => e (he.2 z))]
   have j1 := hs.join h hb h1.1 h2.1
   have j2 := Sim2.mtch h j1 (by rw [joinF_len, joinF_len]; exact hb) h1.2.1 h2.2.1
   exact Sim2.mtch h j2 (by rw [matchT_len, matchT_len, joinF_len, joinF_len]; exact hb) h1.2.2 h2.2.2
 | .n, .n, u, u', E, E', hs, hb, _, _ => by simp only [matchT]; exact hs
 | .p _ _ _, .p _ _ _, .n, .n, E, E', hs, hb, _, _ => by simp only [matchT]; exact hs
 | .n, .p _ _ _, _, _, _, _, _, _, h1, _ => by simp [RelY] at h1
 | .p _ _ _, .n, _, _, _, _, _, _, h1, _ => by simp [RelY] at h1
 | .p _ _ _, .p _ _ _, .n, .p _ _ _, _, _, _, _, _, h2 => by simp [RelY] at h2
 | .p _ _ _, .p _ _ _, .p _ _ _, .n, _, _, _, _, _, h2 => by simp [RelY] at h2
def TRel (L : List (NR × NR)) (T T' : List Ty) : Prop := T.length = T'.length ∧ ∀ i : Int, RelY L (knownT T i) (knownT T' i)
theorem TRel.snoc {L : List (NR × NR)} {T T' : List Ty} (h : TRel L T T') {t t' : Ty} (ht : RelY L t t') : TRel L (T ++ [t]) (T' ++ [t']) := by
 refine ⟨by simp [h.1], fun i => ?_⟩
 have h2 := h.2 i
 unfold knownT at h2 ⊢
 by_cases hi : 0 ≤ i
 ·rw [if_pos hi, if_pos hi] at h2 ⊢
  by_cases hl : i.toNat < T.length
  ·rw [List.getElem?_append_left hl, List.getElem?_append_left (by rw [← h.1]; exact hl)]; exact h2
  ·have hl' := h.1
   rw [List.getElem?_append_right (by omega), List.getElem?_append_right (by omega), ← h.1]
   cases e : i.toNat - T.length with
   | zero => exact ht
   | succ j => simp [RelY]
 ·rw [if_neg hi, if_neg hi]; simp [RelY]
theorem relY_ite {L : List (NR × NR)} {c : Prop} [Decidable c] {a b a' b' : Ty} (h : RelY L a a') (g : RelY L b b') : RelY L (if c then a else b) (if c then a' else b') := by split <;> assumption
theorem TRel.ty {L : List (NR × NR)} {T T' : List Ty} (h : TRel L T T') {n n' : NR} (hs : strip n = strip n') (hl : LabP L n.at_ n'.at_) : RelY L (tyR T (atR n)) (tyR T' (atR n')) := by
 obtain ⟨f, a, b, c, d, e, g, p0, p1, p2⟩ := n
 obtain ⟨f', a', b', c', d', e', g', p0', p1', p2'⟩ := n'
 simp only [strip, NR.mk.injEq, true_and] at hs
 obtain ⟨rfl, rfl, rfl, rfl, rfl, rfl, rfl, rfl⟩ := hs
 simp only [tyR, atR]
 refine relY_ite (h.2 _) (relY_ite (h.2 _) (relY_ite (h.2 _) (relY_ite (h.2 _) (relY_ite (h.2 _) (relY_ite ?_ (relY_ite (h.2 _).fst (relY_ite (h.2 _).snd (by simp [RelY]))))))))
 simp only [Int.toNat_natCast, RelY]
 exact ⟨hl, h.2 _, h.2 _⟩
theorem Sim2.sh {L : List (NR × NR)} (h : IsoL L) : ∀ (M : List (NR × NR)) (T T' : List Ty) (E E' : List Nat), (∀ x ∈ M, x ∈ L) → TRel L T T' → Sim2 L E E' → Bds L E.length E'.length → Sim2 L (shE T E (M.map (·.1))) (shE T' E' (M.map (·.2)))
 | [], _, _, _, _, _, _, hs, _ => hs
 | x :: M, T, T', E, E', hM, hT, hs, hb => by
  have hx := hM x (by simp)
  have hst := h.1 x hx
  have ht := hT.snoc (hT.ty hst ⟨x, hx, rfl, rfl⟩)
  have hf : x.1.form = x.2.form := (congrArg NR.form hst : (strip x.1).form = (strip x.2).form)
  have h1 : x.1.p1 = x.2.p1 := (congrArg NR.p1 hst : (strip x.1).p1 = (strip x.2).p1)
  have h2 : x.1.p2 = x.2.p2 := (congrArg NR.p2 hst : (strip x.1).p2 = (strip x.2).p2)
  simp only [List.map_cons, shE, ← hf, ← h1, ← h2]
  refine Sim2.sh h M _ _ _ _ (fun y hy => hM y (by simp [hy])) ht ?_ ?_
  ·split
   ·exact hs.mtch h hb (ht.2 _) (ht.2 _)
   ·exact hs
  ·split
   ·rw [matchT_len, matchT_len]; exact hb
   ·exact hb
theorem idxF_map {L : List (NR × NR)} (h : IsoL L) : ∀ (F : List (NR × NR)), (∀ x ∈ F, x ∈ L) → ∀ {v v' : Nat}, LabP L v v' → (F.map (·.1.at_)).findIdx? (· == v) = (F.map (·.2.at_)).findIdx? (· == v')
 | [], _, v, v', _ => rfl
 | x :: F, hF, v, v', hv => by
  have := (LabP.eq h ⟨x, hF x (by simp), rfl, rfl⟩ hv : x.1.at_ = v ↔ x.2.at_ = v')
  simp only [List.map_cons, List.findIdx?_cons]
  rw [idxF_map h F (fun y hy => hF y (by simp [hy])) hv]
  by_cases e : x.1.at_ = v
  ·rw [if_pos (by simpa using e), if_pos (by simpa using this.1 e)]
  ·rw [if_neg (by simpa using e), if_neg (by simpa using fun z => e (this.2 z))]
theorem firsts_map {L : List (NR × NR)} (h : IsoL L) {E E' : List Nat} (hs : Sim2 L E E') : ∀ (M : List (NR × NR)), (∀ x ∈ M, x ∈ L) → ∃ F : List (NR × NR), (∀ x ∈ F, x ∈ L) ∧ firstsL E (M.map (·.1)) = F.map (·.1.at_) ∧ firstsL E' (M.map (·.2)) = F.map (·.2.at_)
 | [], _ => ⟨[], fun x hx => by simp at hx, rfl, rfl⟩
 | x :: M, hM => by
  obtain ⟨F, h1, h2, h3⟩ := firsts_map h hs M (fun y hy => hM y (by simp [hy]))
  have hx := hM x (by simp)
  have hf : x.1.form = x.2.form := (congrArg NR.form (h.1 x hx) : (strip x.1).form = (strip x.2).form)
  have hl : LabP L x.1.at_ x.2.at_ := ⟨x, hx, rfl, rfl⟩
  have he := (hs _ _ hl).eq h hl
  unfold firstsL at h2 h3 ⊢
  simp only [List.map_cons, List.filter_cons]
  by_cases c : x.1.form = 4 ∧ fst' E x.1.at_ = x.1.at_
  ·have c' : x.2.form = 4 ∧ fst' E' x.2.at_ = x.2.at_ := ⟨by rw [← hf]; exact c.1, he.1 c.2⟩
   refine ⟨x :: F, fun y hy => ?_, ?_, ?_⟩
   ·rcases List.mem_cons.1 hy with hy | hy
    ·rw [hy]; exact hx
    ·exact h1 y hy
   ·rw [if_pos (by simp [c.1, c.2]), List.map_cons, h2]; rfl
   ·rw [if_pos (by simp [c'.1, c'.2]), List.map_cons, h3]; rfl
  ·have c' : ¬ (x.2.form = 4 ∧ fst' E' x.2.at_ = x.2.at_) := fun z => c ⟨by rw [hf]; exact z.1, he.2 z.2⟩
   refine ⟨F, h1, ?_, ?_⟩
   ·rw [if_neg (by simpa using c)]; exact h2
   ·rw [if_neg (by simpa using c')]; exact h3
theorem tyR_strip (T : List Ty) (n : NR) : tyR T (strip n) = tyR T n := rfl
theorem tyRun_strip : ∀ (l l' : List NR) (T : List Ty), l.map strip = l'.map strip → tyRun T l = tyRun T l'
 | [], [], _, _ => rfl
 | [], _ :: _, _, h => by simp at h
 | _ :: _, [], _, h => by simp at h
 | n :: r, n' :: r', T, h => by
  simp only [List.map_cons, List.cons.injEq] at h
  simp only [tyRun]
  rw [← tyR_strip T n, h.1, tyR_strip]
  exact tyRun_strip r r' _ h.2
theorem spanF_is (T : List Ty) (rg : Nat) (n : NR) : ∀ (l : List NR) (k a b : Nat), (n.at_ ≤ (spanF T rg l k a b).1 ∧ (spanF T rg l k a b).2 ≤ n.beh) ↔ (n.at_ ≤ a ∧ b ≤ n.beh) ∧ ∀ (i : Nat) (m : NR), l[i]? = some m → (knownT T ((k + i : Nat) : Int)).has rg = true → n.at_ ≤ m.at_ ∧ m.beh ≤ n.beh
 | [], k, a, b => by simp [spanF]
 | m :: r, k, a, b => by
  simp only [spanF]
  have hcons : ∀ P : Prop, ((knownT T (k : Int)).has rg = true → n.at_ ≤ m.at_ ∧ m.beh ≤ n.beh) → ((∀ (i : Nat) (x : NR), r[i]? = some x → (knownT T ((k + 1 + i : Nat) : Int)).has rg = true → n.at_ ≤ x.at_ ∧ x.beh ≤ n.beh) ↔ (∀ (i : Nat) (x : NR), (m :: r)[i]? = some x → (knownT T ((k + i : Nat) : Int)).has rg = true → n.at_ ≤ x.at_ ∧ x.beh ≤ n.beh)) := fun _ h0 => by
   constructor
   ·intro h i x hx hh
    cases i with
    | zero => simp only [List.getElem?_cons_zero, Option.some.injEq] at hx; subst hx; exact h0 hh
    | succ i => exact h i x (by simpa using hx) (by rw [show k + 1 + i = k + (i + 1) by omega]; exact hh)
   ·intro h i x hx hh
    exact h (i + 1) x (by simpa using hx) (by rw [show k + (i + 1) = k + 1 + i by omega]; exact hh)
  by_cases hm : (knownT T (k : Int)).has rg = true
  ·rw [if_pos hm, spanF_is T rg n r (k + 1)]
   constructor
   ·rintro ⟨h1, h2⟩
    have h3 : n.at_ ≤ m.at_ ∧ m.beh ≤ n.beh ∧ n.at_ ≤ a ∧ b ≤ n.beh := by
     obtain ⟨g1, g2⟩ := h1
     split at g1 <;> split at g2 <;> omega
    exact ⟨⟨h3.2.2.1, h3.2.2.2⟩, (hcons True (fun _ => ⟨h3.1, h3.2.1⟩)).1 h2⟩
   ·rintro ⟨h1, h2⟩
    have h3 := h2 0 m rfl hm
    refine ⟨?_, (hcons True (fun _ => h3)).2 h2⟩
    constructor
    ·split <;> omega
    ·split <;> omega
  ·rw [if_neg hm, spanF_is T rg n r (k + 1), hcons True (fun h => absurd h hm)]
theorem aboutF_eq (T : List Ty) (rg a b a' b' : Nat) : ∀ (M : List (NR × NR)) (k : Nat), (∀ x ∈ M, (x.1.at_ ≤ a ∧ b ≤ x.1.beh ↔ x.2.at_ ≤ a' ∧ b' ≤ x.2.beh)) → aboutF T rg a b (M.map (·.1)) k = aboutF T rg a' b' (M.map (·.2)) k
 | [], _, _ => rfl
 | x :: M, k, h => by
  have hx := h x (by simp)
  simp only [List.map_cons, aboutF]
  rw [aboutF_eq T rg a b a' b' M (k + 1) (fun y hy => h y (by simp [hy]))]
  by_cases c : x.1.at_ ≤ a ∧ b ≤ x.1.beh ∧ (knownT T (k : Int)).has rg = false
  ·rw [if_pos c, if_pos ⟨(hx.1 ⟨c.1, c.2.1⟩).1, (hx.1 ⟨c.1, c.2.1⟩).2, c.2.2⟩]
  ·rw [if_neg c, if_neg (fun z => c ⟨(hx.2 ⟨z.1, z.2.1⟩).1, (hx.2 ⟨z.1, z.2.1⟩).2, z.2.2⟩)]
theorem strip_set {n n' : NR} (h : strip n = strip n') (r : Int) : strip (setR n r) = strip (setR n' r) := (congrArg (fun m : NR => setR m r) h : setR (strip n) r = setR (strip n') r)
theorem lay_alike {e e' : PT} {ns ns' : List NR} {n0 n0' : NR} (hnp : e.np = e'.np) (hN : Nds e ns n0) (hN' : Nds e' ns' n0') : layR e ns n0 = layR e' ns' n0' ∧ layN e ns n0 = layN e' ns' n0' := by
 obtain ⟨lo, hi, hp⟩ := hN.pos
 obtain ⟨lo', hi', hp'⟩ := hN'.pos
 have hI := iso_of e e' [] 0 ns ns' lo hi lo' hi' hnp hN.na hN'.na hp hp'
 have hl : ns.length = ns'.length := by rw [hN.na.len, hN'.na.len, ← np_cnt' e, hnp, np_cnt']
 obtain ⟨L, hL⟩ : ∃ L, L = ns.zip ns' := ⟨_, rfl⟩
 have hm1 : L.map (·.1) = ns := by rw [hL]; exact List.map_fst_zip (by omega)
 have hm2 : L.map (·.2) = ns' := by rw [hL]; exact List.map_snd_zip (by omega)
 rw [← hL] at hI
 have hin : ∀ x ∈ L, x.1 ∈ ns ∧ x.2 ∈ ns' := fun x hx => by rw [hL] at hx; exact zip_in2 hx
 have hB : Bds L n0.beh n0'.beh := fun r r' ⟨x, hx, h1, h2⟩ => ⟨by rw [h1]; exact hN.at_ _ (hin x hx).1, by rw [h2]; exact hN'.at_ _ (hin x hx).2⟩
 have hS : Sim2 L (layE ns n0) (layE ns' n0') := by
  unfold layE
  rw [← hm1, ← hm2]
  refine Sim2.sh hI L [] [] _ _ (fun _ h => h) ⟨rfl, fun i => by unfold knownT; split <;> simp [RelY]⟩ (fun r r' h => by rw [fst_range, fst_range]; exact h) (by rw [List.length_range, List.length_range]; exact hB)
 have hop : opn e 0 = opn e' 0 := by rw [← np_opn e, hnp, np_opn]
 obtain ⟨M, hM⟩ : ∃ M, M = (opn e 0).map (fun i => (L[i.toNat]?).getD (nr0, nr0)) := ⟨_, rfl⟩
 have ho := op_ok hN.na
 have hLl : L.length = ns.length := by rw [← hm1, List.length_map]
 have hMin : ∀ x ∈ M, x ∈ L := fun x hx => by
  rw [hM, List.mem_map] at hx
  obtain ⟨i, hi, rfl⟩ := hx
  have := (ho.2 i hi).2
  rw [List.getElem?_eq_getElem (by omega)]
  exact List.getElem_mem _
 have hO1 : opNs ns (opn e 0) = M.map (·.1) := by
  unfold opNs
  rw [hM, List.map_map]
  apply List.map_congr_left
  intro i hi
  have := (ho.2 i hi).2
  have hlt : i.toNat < L.length := by omega
  rw [← hm1, List.getElem?_map]
  simp only [Function.comp, List.getElem?_eq_getElem hlt, Option.map_some, Option.getD_some]
 have hO2 : opNs ns' (opn e' 0) = M.map (·.2) := by
  unfold opNs
  rw [hM, ← hop, List.map_map]
  apply List.map_congr_left
  intro i hi
  have := (ho.2 i hi).2
  have hlt : i.toNat < L.length := by omega
  rw [← hm2, List.getElem?_map]
  simp only [Function.comp, List.getElem?_eq_getElem hlt, Option.map_some, Option.getD_some]
 obtain ⟨F, f1, f2, f3⟩ := firsts_map hI hS M hMin
 rw [← hO1] at f2
 rw [← hO2] at f3
 have hF : layF e ns n0 = F.map (·.1.at_) := f2
 have hF' : layF e' ns' n0' = F.map (·.2.at_) := f3
 have hidx : ∀ x ∈ L, (if x.1.form = 4 then idxF (layF e ns n0) (fst' (layE ns n0) x.1.at_) else -1) = (if x.2.form = 4 then idxF (layF e' ns' n0') (fst' (layE ns' n0') x.2.at_) else -1) := fun x hx => by
  have hf : x.1.form = x.2.form := (congrArg NR.form (hI.1 x hx) : (strip x.1).form = (strip x.2).form)
  rw [← hf]
  unfold idxF
  rw [hF, hF', idxF_map hI F f1 (hS _ _ ⟨x, hx, rfl, rfl⟩)]
 have hR : layR e ns n0 = layR e' ns' n0' := by
  unfold layR regsL
  conv => lhs; rw [← hm1]
  conv => rhs; rw [← hm2]
  rw [List.map_map, List.map_map]
  apply List.map_congr_left
  intro x hx
  rw [hm1, hm2]
  exact hidx x hx
 refine ⟨hR, ?_⟩
 have hT : layT e ns n0 = layT e' ns' n0' := by
  unfold layT
  apply tyRun_strip
  unfold rgdN
  conv => lhs; rw [← hm1]
  conv => rhs; rw [← hm2]
  rw [List.map_map, List.map_map, List.map_map, List.map_map]
  apply List.map_congr_left
  intro x hx
  rw [hm1, hm2]
  have h1 := hidx x hx
  have h2 := hI.1 x hx
  simp only [Function.comp]
  rw [h1]
  exact strip_set h2 _
 obtain ⟨hr0, hrr⟩ := posN_root hp n0 hN.last
 obtain ⟨hr0', hrr'⟩ := posN_root hp' n0' hN'.last
 unfold layN newsL
 rw [hF, hF', List.length_map, List.length_map, hT]
 generalize layT e' ns' n0' = TT
 apply List.map_congr_left
 intro r _
 conv => lhs; rw [← hm1]
 conv => rhs; rw [← hm2]
 refine aboutF_eq _ r _ _ _ _ L 0 (fun x hx => ?_)
 rw [hm1, hm2, spanF_is, spanF_is]
 have q1 := hrr x.1 (hin x hx).1
 have q2 := hrr' x.2 (hin x hx).2
 have b1 := hp.in_ x.1 (hin x hx).1
 have b2 := hp'.in_ x.2 (hin x hx).2
 have hat := fun i (y : NR × NR) (h : L[i]? = some y) => And.intro (show ns[i]? = some y.1 by rw [← hm1, List.getElem?_map, h]; rfl) (show ns'[i]? = some y.2 by rw [← hm2, List.getElem?_map, h]; rfl)
 constructor
 ·rintro ⟨_, h⟩
  refine ⟨by omega, fun i m hm hh => ?_⟩
  have hil : i < L.length := by have := (List.getElem?_eq_some_iff.1 hm).1; omega
  have hy := hat i L[i] (List.getElem?_eq_getElem hil)
  rw [hy.2] at hm
  simp only [Option.some.injEq] at hm
  rw [← hm]
  exact (hI.2 x hx L[i] (List.getElem_mem hil)).2.1 (h i _ hy.1 hh)
 ·rintro ⟨_, h⟩
  refine ⟨by omega, fun i m hm hh => ?_⟩
  have hil : i < L.length := by have := (List.getElem?_eq_some_iff.1 hm).1; omega
  have hy := hat i L[i] (List.getElem?_eq_getElem hil)
  rw [hy.1] at hm
  simp only [Option.some.injEq] at hm
  rw [← hm]
  exact (hI.2 x hx L[i] (List.getElem_mem hil)).2.2 (h i _ hy.2 hh)
theorem place_np {e e' : PT} {ns ns' : List NR} {n0 n0' : NR} (hnp : e.np = e'.np) (hN : Nds e ns n0) (hN' : Nds e' ns' n0') : e.wtx (layR e ns n0) (layN e ns n0) 0 = e'.wtx (layR e' ns' n0') (layN e' ns' n0') 0 := by
 obtain ⟨h1, h2⟩ := lay_alike hnp hN hN'
 rw [h1, h2, ← np_wtx _ _ e, hnp, np_wtx]
def Pc (c : UInt8) (p : List UInt8) : Prop := p = [c] ∨ (c = 32 ∧ (p = [10] ∨ p = [32, 10, 32])) ∨ (c = 40 ∧ p = [40, 32]) ∨ (c = 41 ∧ p = [10, 41])
inductive Spr : List UInt8 → List UInt8 → Prop
 | nil : Spr [] []
 | cons {c : UInt8} {p r r' : List UInt8} (hp : Pc c p) (h : Spr r r') : Spr (c :: r) (p ++ r')
theorem Spr.rn {lo hi : Int} (h32 : inB lo hi 32 = false) (h10 : inB lo hi 10 = false) (h40 : inB lo hi 40 = false) (h41 : inB lo hi 41 = false) {l l' : List UInt8} (h : Spr l l') : run lo hi l' = run lo hi l ∧ l'.take (run lo hi l) = l.take (run lo hi l) ∧ Spr (l.drop (run lo hi l)) (l'.drop (run lo hi l)) := by
 induction h with
 | nil => exact ⟨rfl, rfl, by simpa [run] using Spr.nil⟩
 | @cons c p r r' hp h ih =>
  by_cases hc : inB lo hi c = true
  ·have hpc : p = [c] := by
    rcases hp with e | ⟨e, _⟩ | ⟨e, _⟩ | ⟨e, _⟩
    ·exact e
    ·rw [e, h32] at hc; cases hc
    ·rw [e, h40] at hc; cases hc
    ·rw [e, h41] at hc; cases hc
   subst hpc
   obtain ⟨i1, i2, i3⟩ := ih
   simp only [List.singleton_append, run, hc, if_true, List.take_succ_cons, List.drop_succ_cons]
   exact ⟨by rw [i1], by rw [i2], i3⟩
  ·have h0 : run lo hi (c :: r) = 0 := by simp [run, hc]
   have h0' : run lo hi (p ++ r') = 0 := by
    rcases hp with e | ⟨_, e | e⟩ | ⟨_, e⟩ | ⟨_, e⟩ <;> subst e <;> simp [run, hc, h10, h32, h40]
   rw [h0, h0']
   exact ⟨rfl, rfl, Spr.cons hp h⟩
theorem sk_step (c : UInt8) (r : List UInt8) (h : blankB c = false) : sk (c :: r) = ⟨(c :: r).take (tokenOf (c :: r)).1, 0, (tokenOf (c :: r)).2⟩ :: sk ((c :: r).drop (tokenOf (c :: r)).1) := by
 show (toks (r.length + 1) 0 (c :: r)).map Tk.z = _
 have hp := tokenOf_pos (c :: r)
 rw [toks_tok _ _ _ _ h, List.map_cons, toks_sk _ _ _ (by rw [List.length_drop, List.length_cons]; omega)]; rfl
theorem tokenOf_one (c : UInt8) (r : List UInt8) (h1 : inB 97 122 c = false) (h2 : inB 48 57 c = false) (h3 : c ≠ 35) : tokenOf (c :: r) = (1, if c = 40 then .opn else if c = 41 then .cls else .bad) := by
 unfold tokenOf
 simp [run, h1, h2, h3]
theorem sk_open (r : List UInt8) : sk (40 :: r) = ⟨[40], 0, .opn⟩ :: sk r := by
 rw [sk_step 40 r (by decide), tokenOf_one 40 r (by decide) (by decide) (by decide)]; rfl
theorem sk_close (r : List UInt8) : sk (41 :: r) = ⟨[41], 0, .cls⟩ :: sk r := by
 rw [sk_step 41 r (by decide), tokenOf_one 41 r (by decide) (by decide) (by decide)]; rfl
theorem Spr.tok {c : UInt8} {r r' : List UInt8} (h : Spr r r') : tokenOf (c :: r') = tokenOf (c :: r) ∧ (c :: r').take (tokenOf (c :: r)).1 = (c :: r).take (tokenOf (c :: r)).1 ∧ Spr ((c :: r).drop (tokenOf (c :: r)).1) ((c :: r').drop (tokenOf (c :: r)).1) := by
 have hs : Spr (c :: r) (c :: r') := Spr.cons (p := [c]) (Or.inl rfl) h
 obtain ⟨a1, a2, a3⟩ := hs.rn (lo := 97) (hi := 122) (by decide) (by decide) (by decide) (by decide)
 obtain ⟨b1, b2, b3⟩ := hs.rn (lo := 48) (hi := 57) (by decide) (by decide) (by decide) (by decide)
 obtain ⟨d1, d2, d3⟩ := h.rn (lo := 48) (hi := 57) (by decide) (by decide) (by decide) (by decide)
 unfold tokenOf
 by_cases ha : 0 < run 97 122 (c :: r)
 ·rw [if_pos ha, a1, if_pos ha, a2]
  exact ⟨rfl, rfl, a3⟩
 ·rw [if_neg ha, a1, if_neg ha]
  by_cases hb : 0 < run 48 57 (c :: r)
  ·rw [if_pos hb, b1, if_pos hb, b2]
   exact ⟨rfl, rfl, b3⟩
  ·rw [if_neg hb, b1, if_neg hb]
   simp only
   by_cases hc : c = 35
   ·simp only [if_pos hc, d1, d2, List.take_succ_cons, List.drop_succ_cons]
    exact ⟨trivial, trivial, d3⟩
   ·simp only [if_neg hc, List.take_succ_cons, List.drop_succ_cons, List.take_zero, List.drop_zero]
    exact ⟨trivial, trivial, h⟩
theorem spr_sk : ∀ (n : Nat) (l l' : List UInt8), l.length ≤ n → Spr l l' → sk l' = sk l
 | _, [], _, _, h => by cases h; rfl
 | 0, _ :: _, _, hn, _ => by simp at hn
 | n + 1, c :: r, l', hn, h => by
  simp only [List.length_cons] at hn
  cases h with
  | @cons _ p _ r' hp h =>
  have ih := spr_sk n r r' (by omega) h
  by_cases hb : blankB c = true
  ·rw [sk_blank c r hb, ← ih]
   rcases hp with e | ⟨_, e | e⟩ | ⟨e, _⟩ | ⟨e, _⟩
   ·subst e; exact sk_blank c r' hb
   ·subst e; exact sk_blank 10 r' (by decide)
   ·subst e
    rw [List.cons_append, sk_blank 32 _ (by decide), List.cons_append, sk_blank 10 _ (by decide)]
    exact sk_blank 32 r' (by decide)
   ·rw [e] at hb; exact absurd hb (by decide)
   ·rw [e] at hb; exact absurd hb (by decide)
  ·have hb0 : blankB c = false := by simpa using hb
   by_cases h40 : c = 40
   ·subst h40
    rw [sk_open r, ← ih]
    rcases hp with e | ⟨e, _⟩ | ⟨_, e⟩ | ⟨e, _⟩
    ·subst e; exact sk_open r'
    ·exact absurd e (by decide)
    ·subst e
     rw [List.cons_append, sk_open, List.cons_append, sk_blank 32 _ (by decide)]; rfl
    ·exact absurd e (by decide)
   ·by_cases h41 : c = 41
    ·subst h41
     rw [sk_close r, ← ih]
     rcases hp with e | ⟨e, _⟩ | ⟨e, _⟩ | ⟨_, e⟩
     ·subst e; exact sk_close r'
     ·exact absurd e (by decide)
     ·exact absurd e (by decide)
     ·subst e
      rw [List.cons_append, sk_blank 10 _ (by decide)]
      exact sk_close r'
    ·have hpc : p = [c] := by
      rcases hp with e | ⟨e, _⟩ | ⟨e, _⟩ | ⟨e, _⟩
      ·exact e
      ·rw [e] at hb; exact absurd (by decide) hb
      ·exact absurd e h40
      ·exact absurd e h41
     subst hpc
     obtain ⟨t1, t2, t3⟩ := h.tok (c := c)
     have hps := tokenOf_pos (c :: r)
     show sk (c :: r') = _
     rw [sk_step c r' hb0, sk_step c r hb0, t1, t2, spr_sk n _ _ (by rw [List.length_drop, List.length_cons]; omega) t3]
theorem Spr.sk {l l' : List UInt8} (h : Spr l l') : sk l' = sk l := spr_sk l.length l l' (Nat.le_refl _) h
def wgt (c : UInt8) : Nat := if c = 32 then 2 else if c = 40 then 1 else if c = 41 then 1 else 0
def wgtL : List UInt8 → Nat
 | [] => 0
 | c :: r => wgt c + wgtL r
theorem wgtL_app (a b : List UInt8) : wgtL (a ++ b) = wgtL a + wgtL b := by induction a <;> simp [wgtL, *]; omega
theorem wgtL_le : ∀ l : List UInt8, wgtL l ≤ 2 * l.length
 | [] => Nat.le_refl _
 | c :: r => by
  have := wgtL_le r
  have hc : wgt c ≤ 2 := by unfold wgt; split; · omega
                            split; · omega
                            split <;> omega
  simp only [wgtL, List.length_cons]; omega
theorem Spr.len {l l' : List UInt8} (h : Spr l l') : l'.length ≤ l.length + wgtL l := by
 induction h with
 | nil => simp
 | @cons c p r r' hp h ih =>
  have hpl : p.length ≤ 1 + wgt c := by
   rcases hp with e | ⟨e, f | f⟩ | ⟨e, f⟩ | ⟨e, f⟩
   ·subst e; simp
   ·subst e; subst f; simp
   ·subst e; subst f; simp [wgt]
   ·subst e; subst f; simp [wgt]
   ·subst e; subst f; simp [wgt]
  simp only [List.length_append, List.length_cons, wgtL]; omega
theorem wgt_plain {l : List UInt8} (h : ∀ c ∈ l, c ≠ 32 ∧ c ≠ 40 ∧ c ≠ 41) : wgtL l = 0 := by
 induction l with
 | nil => rfl
 | cons c r ih =>
  have hc := h c (by simp)
  simp only [wgtL, wgt, if_neg hc.1, if_neg hc.2.1, if_neg hc.2.2, ih (fun x hx => h x (by simp [hx]))]
theorem wgt_let {l : List UInt8} (h : ∀ c ∈ l, inB 97 122 c = true) : wgtL l = 0 := wgt_plain (fun c hc => by
 have := inB_of (h c hc)
 refine ⟨?_, ?_, ?_⟩ <;> (rintro rfl; revert this; decide))
theorem wgt_dig {l : List UInt8} (h : ∀ c ∈ l, inB 48 57 c = true) : wgtL l = 0 := wgt_plain (fun c hc => by
 have := inB_of (h c hc)
 refine ⟨?_, ?_, ?_⟩ <;> (rintro rfl; revert this; decide))
end Go.Proofs.YtpicaknklgccoaaGreatDoor
