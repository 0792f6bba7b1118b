import Derived.Test.YtpicaknklgccoaaGreatDoorP32
namespace Go.Proofs.YtpicaknklgccoaaGreatDoor
open Go.RowKit
def layE (ns : List NR) (n0 : NR) : List Nat := shE [] (List.range n0.beh) ns
def layF (e : PT) (ns : List NR) (n0 : NR) : List Nat := firstsL (layE ns n0) (opNs ns (opn e 0))
def layR (e : PT) (ns : List NR) (n0 : NR) : List Int := regsL (layE ns n0) (layF e ns n0) ns
def layT (e : PT) (ns : List NR) (n0 : NR) : List Ty := tyRun [] (rgdN (layE ns n0) (layF e ns n0) ns)
def layN (e : PT) (ns : List NR) (n0 : NR) : List Int := newsL (layT e ns n0) ns n0 (layF e ns n0).length
structure Nds (e : PT) (ns : List NR) (n0 : NR) : Prop where
 na : NA [] e 0 ns
 last : ns[ns.length - 1]? = some n0
 beh : n0.beh ≤ 3000
 at_ : ∀ n ∈ ns, n.at_ < n0.beh
 pos : ∃ lo hi, PosN e ns lo hi
mutual
theorem PosN.all : ∀ {t : PT} {ns : List NR} {lo hi : Nat}, PosN t ns lo hi → ∀ n ∈ ns, lo ≤ n.at_ ∧ n.at_ < hi
 | .num p _, ns, lo, hi, h, n, hn => by simp only [PosN] at h; obtain ⟨m, rfl, h1, h2, h3, h4⟩ := h; simp only [List.mem_singleton] at hn; subst hn; omega
 | .name p _, ns, lo, hi, h, n, hn => by simp only [PosN] at h; obtain ⟨m, rfl, h1, h2, h3, h4⟩ := h; simp only [List.mem_singleton] at hn; subst hn; omega
 | .node p _ _ _ kids, ns, lo, hi, h, n, hn => by
  simp only [PosN] at h
  obtain ⟨ks, m, rfl, h1, h2, h3, h4, h5⟩ := h
  rcases List.mem_append.1 hn with hn | hn
  ·have := PosNs.all h3 n hn; omega
  ·simp only [List.mem_singleton] at hn; subst hn; omega
theorem PosNs.all : ∀ {ts : List PT} {ns : List NR} {lo hi : Nat}, PosNs ts ns lo hi → ∀ n ∈ ns, lo ≤ n.at_ ∧ n.at_ < hi
 | [], ns, lo, hi, h, n, hn => by simp only [PosNs] at h; rw [h.1] at hn; simp at hn
 | t :: r, ns, lo, hi, h, n, hn => by
  simp only [PosNs] at h
  obtain ⟨a, c, mid, rfl, h1, h2⟩ := h
  have hl := h1.lt
  have hr := h2.le
  rcases List.mem_append.1 hn with hn | hn
  ·have := PosN.all h1 n hn; omega
  ·have := PosNs.all h2 n hn; omega
end
theorem posN_last {t : PT} {ns : List NR} {lo hi : Nat} (h : PosN t ns lo hi) : ∃ n0, ns[ns.length - 1]? = some n0 ∧ n0.beh ≤ hi ∧ ∀ n ∈ ns, n.at_ < n0.beh := by
 cases t with
 | num p s => simp only [PosN] at h; obtain ⟨m, rfl, h1, h2, h3, h4⟩ := h; exact ⟨m, rfl, h4, fun n hn => by simp only [List.mem_singleton] at hn; subst hn; omega⟩
 | name p s => simp only [PosN] at h; obtain ⟨m, rfl, h1, h2, h3, h4⟩ := h; exact ⟨m, rfl, h4, fun n hn => by simp only [List.mem_singleton] at hn; subst hn; omega⟩
 | node p k nm rg kids =>
  simp only [PosN] at h
  obtain ⟨ks, m, rfl, h1, h2, h3, h4, h5⟩ := h
  refine ⟨m, by simp, h5, fun n hn => ?_⟩
  rcases List.mem_append.1 hn with hn | hn
  ·exact (h3.all n hn).2
  ·simp only [List.mem_singleton] at hn; subst hn; omega
theorem firsts_prs (E : List Nat) (ns : List NR) : ∀ op : List Int, (firstsL E (opNs ns op)).length ≤ (op.filterMap (pairAt ns)).length
 | [] => by simp [opNs, firstsL]
 | x :: r => by
  have ih := firsts_prs E ns r
  unfold firstsL at ih ⊢
  simp only [opNs, List.map_cons] at ih ⊢
  rw [List.filter_cons, List.filterMap_cons]
  simp only [List.length_map] at ih ⊢
  cases h : ns[x.toNat]? with
  | none =>
   have hx : pairAt ns x = none := by unfold pairAt; rw [h]
   have h4 : (nr0.form == 4 && fst' E nr0.at_ == nr0.at_) = false := by simp [nr0]
   rw [hx, Option.getD_none, h4]
   exact ih
  | some n =>
   rw [Option.getD_some]
   by_cases h4 : n.form = 4
   ·have hx : pairAt ns x = some n.at_ := by unfold pairAt; rw [h]; simp only; rw [if_pos h4]
    rw [hx]
    simp only [List.length_cons]
    split
    ·simp only [List.length_cons]; omega
    ·omega
   ·have hx : pairAt ns x = none := by unfold pairAt; rw [h]; simp only; rw [if_neg h4]
    have h5 : (n.form == 4 && fst' E n.at_ == n.at_) = false := by simp [h4]
    rw [hx, h5]
    exact ih
theorem layF_len {e : PT} {ns : List NR} {n0 : NR} (h : NA [] e 0 ns) : (layF e ns n0).length ≤ e.prs := by
 have h1 := firsts_prs (layE ns n0) ns (opn e 0)
 rw [opn_pairs ns e [] 0 ns h (fun j _ => by rw [Nat.zero_add]), List.length_map, prl_len] at h1
 exact h1
theorem idxF_le (row : List Nat) (x : Nat) : -1 ≤ idxF row x ∧ idxF row x ≤ row.length := by
 unfold idxF
 cases h : row.findIdx? (· == x) with
 | some i => have := (List.findIdx?_eq_some_iff_getElem.1 h).1; simp only; omega
 | none => simp only; omega
theorem layR_bd (e : PT) (ns : List NR) (n0 : NR) (hl : (layF e ns n0).length ≤ 100) : (∀ i, rgV (layR e ns n0) i ≤ 9999) ∧ ∀ i, -1 ≤ rgV (layR e ns n0) i := by
 have key : ∀ i, -1 ≤ rgV (layR e ns n0) i ∧ rgV (layR e ns n0) i ≤ 100 := fun i => by
  unfold rgV layR regsL
  rw [List.getElem?_map]
  cases ns[i]? with
  | none => simp
  | some n =>
   simp only [Option.map_some, Option.getD_some]
   split
   ·have := idxF_le (layF e ns n0) (fst' (layE ns n0) n.at_); omega
   ·omega
 exact ⟨fun i => by have := key i; omega, fun i => (key i).1⟩
theorem rgdN_drop (E fs : List Nat) (ns : List NR) (k : Nat) (n : NR) (r : Int) (hn : ns[k]? = some n) (hr : (regsL E fs ns)[k]? = some r) : (rgdN E fs ns).drop k = setR n r :: (rgdN E fs ns).drop (k + 1) := by
 have hk : k < (rgdN E fs ns).length := by unfold rgdN; rw [List.length_map]; exact (List.getElem?_eq_some_iff.1 hn).1
 rw [List.drop_eq_getElem_cons hk]
 congr 1
 have h1 : (rgdN E fs ns)[k]? = some (rgdN E fs ns)[k] := List.getElem?_eq_getElem hk
 unfold rgdN regsL at *
 rw [List.getElem?_map, hn] at h1 hr
 simp only [Option.map_some, Option.some.injEq] at h1 hr
 rw [← h1, hr]
set_option maxRecDepth 100000 in
set_option maxHeartbeats 8000000 in
theorem leasePlace_ok (s : ByteArray) (hs : s.size ≤ 3000) (e : PT) (hp : PE false (tokens s.data.toList) e []) (hchk : chkAns e = (0, 0)) :
  ∃ ns n0, Nds e ns n0 ∧ Lay2 (layR e ns n0) (layN e ns n0) ns (layT e ns n0) ∧ ∀ w, Lib.TabIs Tryz.prog w "internal/strconv.uint64pow10" .u64 Lib.pow10Tab → Calls Tryz.prog 16 #[.string s] w fun v w' => v = .returned (.tuple #[.string (bs (e.wtx (layR e ns n0) (layN e ns n0) 0)), .int .i64 (0 : Nat)]) ∧ Below w.heap.size w w' := by
 obtain ⟨ns, hna, hpg⟩ := prog_yes (len := s.size) hp
 have hps := prog_pos (placed := false) (len := s.size) hp (tokens_okU s.data.toList)
 have hpg2 := hpg
 rw [hpg] at hps
 obtain ⟨n0, hlast, hbeh, hat⟩ := posN_last hps
 have hN : Nds e ns n0 := ⟨hna, hlast, by omega, hat, _, _, hps⟩
 have hwf := hp.wf
 have hc1 : (chkAns e).1 = 0 := by rw [hchk]
 obtain ⟨U, hwt, _⟩ := chk_WT hwf hc1
 obtain ⟨⟨hrgd, hnn⟩, _⟩ := PE.plain hp (tokens_tame _)
 have hta := (hp.tame (tokens_tame _)).1
 have hprs : e.prs ≤ 100 := by
  unfold chkAns at hc1
  split at hc1
  ·simp at hc1
  ·omega
 have hfl := layF_len (n0 := n0) hna
 have hL : Lay2 (layR e ns n0) (layN e ns n0) ns (layT e ns n0) ∧ SzOk [] (ns.map atR) ∧ SzOk [] (rgdN (layE ns n0) (layF e ns n0) ns) := lay2_of hwt hnn hna hat (by show (layF e ns n0).length ≤ 1000; omega)
 obtain ⟨hL2, hsz1, hsz2⟩ := hL
 refine ⟨ns, n0, hN, hL2, fun w htab => ?_⟩
 have hcnt := Study_len hp
 have hnl := hna.len
 obtain ⟨hb1, hb2⟩ := layR_bd e ns n0 (by omega)
 have hnn2 : (layN e ns n0).length ≤ 150 := by unfold layN newsL; rw [List.length_map, List.length_range]; omega
 have hrp := fun w => readPlain_pg s w hs e hp
 rw [hchk, hpg2] at hrp
 have hpr := fun (W : World) (x1 : Option Addr) (n1 c1 : Nat) (x2 : Option Addr) (n2 c2 : Nat) (hT : TreeIn W (.slice x1 n1 c1) (.slice x2 n2 c2) ns (opn e 0)) => pProgram_any W x1 n1 c1 x2 n2 c2 ns (opn e 0) hT (op_ok hna) (by omega) (hna.small (fun _ h => by simp at h) (by omega)) n0 hlast (by omega) hat hsz1 (layE ns n0) (layF e ns n0) rfl rfl (rgdN (layE ns n0) (layF e ns n0) ns) (fun k n r hn hr => ⟨rgdN_drop _ _ ns k n r hn hr, fun h4 => by
  have h1 := (hL2.pr k n hn).1 h4
  have h2 : rgV (layR e ns n0) k = r := by unfold rgV layR; rw [hr]; rfl
  rw [h2] at h1; exact h1.1⟩) (by unfold rgdN; rw [List.length_map]) hsz2
 have hwp := fun (W : World) (hb : Below w.heap.size w W) (x1 : Option Addr) (n1 c1 : Nat) (x2 : Option Addr) (n2 c2 : Nat) (y1 : Option Addr) (m1 d1 : Nat) (y2 : Option Addr) (m2 d2 : Nat) (hT : TreeIn W (.slice x1 n1 c1) (.slice x2 n2 c2) ns (opn e 0)) (hL : LyIn W ⟨.slice y1 m1 d1, .slice y2 m2 d2, layR e ns n0, layN e ns n0⟩) => Placed_any W y1 m1 d1 y2 m2 d2 (layR e ns n0) (layN e ns n0) hL ⟨hnn2, hb1⟩ hb2 (by unfold layR regsL; rw [List.length_map]; omega) x1 n1 c1 x2 n2 c2 ns (opn e 0) e hT (Lib.tabBelow_of_tabIs htab W hb) hna.shows0 hta hwf hnl.symm (by omega)
 unfold treeV at hrp hpr hwp
 have HRP : Hid _ := hrp
 have HPR : Hid (∀ (W : World) (x1 : Option Addr) (n1 c1 : Nat) (x2 : Option Addr) (n2 c2 : Nat), TreeIn W (.slice x1 n1 c1) (.slice x2 n2 c2) ns (opn e 0) → Calls Tryz.prog 35 #[.agg #[.slice x1 n1 c1, .slice x2 n2 c2]] W fun v w' => ∃ y1 m1 d1 y2 m2 d2, v = .returned (.agg #[.slice y1 m1 d1, .slice y2 m2 d2]) ∧ LyIn w' ⟨.slice y1 m1 d1, .slice y2 m2 d2, layR e ns n0, layN e ns n0⟩ ∧ Below W.heap.size W w') := hpr
 have HWP : Hid _ := hwp
 generalize e.wtx (layR e ns n0) (layN e ns n0) 0 = TX at *
 generalize layR e ns n0 = regs at *
 generalize layN e ns n0 = news at *
 clear hp hps hpg hpg2 hlast hbeh hat hN hwf hc1 hwt hrgd hnn hta hprs hfl hL2 hsz1 hsz2 hcnt hnl hb1 hb2 hnn2 hrp hpr hwp htab hchk hna
 go_enter Tryz.func16, Tryz.ntmps16
 go_wp2_with fail
 refine Calls.mono (HRP.out _) ?_
 rintro _ w1 ⟨x1, n1, c1, x2, n2, c2, ns', rfl, hb1, hT1, _, hns⟩
 have hns' : ns' = ns := hns.symm
 subst hns'
 have hA : Below w.heap.size w (w1.alloc (.cells #[.slice x1 n1 c1, .slice x2 n2 c2] 59)) := hb1.alloc hb1.size _
 have hT2 := hT1.below (show Below w1.heap.size w1 (w1.alloc (.cells #[.slice x1 n1 c1, .slice x2 n2 c2] 59)) from (Below.refl _ _).alloc (Nat.le_refl _) _)
 have hpc := HPR.out _ x1 n1 c1 x2 n2 c2 hT2
 have hk := blk_new w1 (.cells #[.slice x1 n1 c1, .slice x2 n2 c2] 59 (0, 0))
 have HT2 : Hid _ := hT2
 have HA : Hid _ := hA
 have HK : Hid _ := hk
 clear hb1 hT1 hA hT2 hk hns HRP HPR
 go_wp2_with fail
 refine Calls.mono hpc ?_
 rintro _ w2 ⟨y1, m1, d1, y2, m2, d2, rfl, hL2, hb2⟩
 have hB2 := HA.out.trans (hb2.mono HA.out.size)
 have hal : Below w2.heap.size w2 (w2.alloc (.cells #[.slice y1 m1 d1, .slice y2 m2 d2] 73)) := (Below.refl _ _).alloc (Nat.le_refl _) _
 have hB3 : Below w.heap.size w (w2.alloc (.cells #[.slice y1 m1 d1, .slice y2 m2 d2] 73)) := hB2.alloc hB2.size _
 have hwc := HWP.out _ hB3 x1 n1 c1 x2 n2 c2 y1 m1 d1 y2 m2 d2 ((HT2.out.below hb2).below hal) (hL2.below hal)
 have hk2 := (hb2.block _ (blk_lt HK.out)).trans HK.out
 have a0 : w2.cell? ⟨w1.heap.size, 0, none⟩ = some (.slice x1 n1 c1) := by rw [blk_cell hk2]; rfl
 have a1 : w2.cell? ⟨w1.heap.size, 1, none⟩ = some (.slice x2 n2 c2) := by rw [blk_cell hk2]; rfl
 have al := blk_lt hk2
 have an := Nat.ne_of_lt al
 have HB3 : Hid _ := hB3
 clear hL2 hb2 hB2 hal hB3 hk2 hpc HT2 HA HK HWP
 go_wp2_with fail
 refine Calls.mono hwc ?_
 rintro _ w3 ⟨rfl, hb3⟩
 have HB4 : Hid _ := HB3.out.trans (hb3.mono HB3.out.size)
 clear hb3 hwc HB3 a0 a1 al an
 go_wp2
 refine bodyPost_ret (v := .tuple #[.string (bs TX), .int .i64 0]) (by simp [results, Tryz.results16, go_sem]) rfl ⟨rfl, HB4.out⟩
open Go.Lib (decDigits)
def cntR (news : List Int) (lo hi : Nat) : Nat := (news.filter (fun a => decide ((lo : Int) ≤ a) && decide (a < (hi : Int)))).length
theorem cntR_split (news : List Int) {a b c : Nat} (h1 : a ≤ b) (h2 : b ≤ c) : cntR news a c = cntR news a b + cntR news b c := by
 unfold cntR
 induction news with
 | nil => rfl
 | cons x r ih =>
  simp only [List.filter_cons]
  by_cases g1 : (a : Int) ≤ x
  ·by_cases g2 : x < (b : Int)
   ·have e1 : ¬ (b : Int) ≤ x := by omega
    have e2 : x < (c : Int) := by omega
    simp only [g1, g2, e1, e2, decide_true, decide_false, Bool.and_self, Bool.false_and, if_true, Bool.false_eq_true, if_false, List.length_cons]
    omega
   ·have e1 : (b : Int) ≤ x := by omega
    by_cases g3 : x < (c : Int)
    ·simp only [g1, g2, e1, g3, decide_true, decide_false, Bool.and_self, Bool.and_false, if_true, Bool.false_eq_true, if_false, List.length_cons]
     omega
    ·simp only [g1, g2, e1, g3, decide_true, decide_false, Bool.and_false, Bool.false_eq_true, if_false]
     exact ih
  ·have e1 : ¬ (b : Int) ≤ x := by omega
   simp only [g1, e1, decide_false, Bool.false_and, Bool.false_eq_true, if_false]
   exact ih
theorem cntR_one (news : List Int) (i : Nat) : cntR news i (i + 1) = clN news i := by
 unfold cntR clN
 congr 1
 apply List.filter_congr
 intro x _
 by_cases h : x = (i : Int)
 ·subst h; simp; omega
 ·have : (x == (i : Int)) = false := by rw [beq_eq_false_iff_ne]; exact h
  rw [this, Bool.and_eq_false_iff]
  by_cases g : (i : Int) ≤ x
  ·right; simp; omega
  ·left; simp; omega
theorem cntR_le (news : List Int) (lo hi : Nat) : cntR news lo hi ≤ news.length := List.length_filter_le _ _
theorem opT_cl (i : Int) : ∀ (l : List Int) (r : Nat), r + l.length ≤ 9999 → (opT l r i).length ≤ 11 * clN l i
 | [], _, _ => by simp [opT]
 | a :: l, r, h => by
  simp only [List.length_cons] at h
  have h1 := opT_cl i l (r + 1) (by omega)
  have h2 := opR_len r (by omega)
  unfold clN at h1 ⊢
  simp only [opT, List.length_append, List.filter_cons]
  by_cases e : a = i
  ·have : (a == i) = true := by simp [e]
   rw [if_pos e, this]
   simp only [if_true, List.length_cons]; omega
  ·have : (a == i) = false := by rw [beq_eq_false_iff_ne]; exact e
   rw [if_neg e, this]
   simp only [List.length_nil, Bool.false_eq_true, if_false]; omega
theorem joinT_more (k : Kw) (nm : List UInt8) : ∀ (l l' : List (List UInt8)) (i B : Nat), l.length = l'.length → (l.map List.length).sum ≤ (l'.map List.length).sum + B → (joinT k nm i l).length ≤ (joinT k nm i l').length + B
 | [], [], _, _, _, _ => by simp [joinT]
 | [], _ :: _, _, _, h, _ => by simp at h
 | _ :: _, [], _, _, h, _ => by simp at h
 | x :: r, y :: s, i, B, h, hb => by
  simp only [List.length_cons, Nat.add_right_cancel_iff] at h
  have key : ∀ (a b : List (List UInt8)) (j : Nat), a.length = b.length → (joinT k nm j a).length + (b.map List.length).sum = (joinT k nm j b).length + (a.map List.length).sum := by
   intro a
   induction a with
   | nil => intro b j hl; cases b with | nil => rfl | cons _ _ => simp at hl
   | cons u v ih =>
    intro b j hl
    cases b with
    | nil => simp at hl
    | cons w z =>
     have := ih z (j + 1) (by simpa using hl)
     simp only [joinT, List.map_cons, List.sum_cons, List.length_append, pieceT]
     simp only [List.length_cons] at *
     omega
  have := key (x :: r) (y :: s) i (by simp [h])
  omega
mutual
theorem ftx_more {regs news : List Int} (hr : ∀ i, rgV regs i ≤ 9999) (hn : news.length ≤ 150) {ns : List NR} (H : LyT regs ns) : ∀ (t : PT) (b : Nat), Shows ns t b → NoNew t → (t.ftx regs news b).length ≤ t.ptx.length + 6 * t.prs + 12 * cntR news b (b + t.cnt - 1)
 | .num _ _, _, _, _ => by simp only [PT.ftx, PT.ptx]; omega
 | .name _ _, _, _, _ => by simp only [PT.ftx, PT.ptx]; omega
 | .node p k nm rg kids, b, hs, hw => by
  cases hw with
  | node hk hw =>
  simp only [Shows] at hs
  obtain ⟨⟨n, hn1, hf, _⟩, hks⟩ := hs
  have h1 := wtxL_more hr hn H kids b hks hw
  have h2 : (rgT regs (b + cntL kids)).length ≤ 6 * (if k = .pair then 1 else 0) := by
   by_cases hp : k = .pair
   ·rw [if_pos hp]; exact rgT_len regs _ (hr _)
   ·have := (H _ _ hn1).2 (fun e => hp ((form4 k).1 (hf ▸ e)))
    unfold rgT
    rw [if_pos this]; simp
  have h3 := joinT_more k nm (wtxL regs news kids b) (ptxL kids) 0 _ (by rw [wtxL_length, ptxL_len]) h1
  simp only [PT.ftx, PT.ptx, if_neg hk, PT.prs, PT.cnt, List.length_cons, List.length_append, List.length_nil]
  rw [show b + (1 + cntL kids) - 1 = b + cntL kids by omega]
  omega
theorem wtxL_more {regs news : List Int} (hr : ∀ i, rgV regs i ≤ 9999) (hn : news.length ≤ 150) {ns : List NR} (H : LyT regs ns) : ∀ (ts : List PT) (b : Nat), ShowsL ns ts b → (∀ x ∈ ts, NoNew x) → ((wtxL regs news ts b).map List.length).sum ≤ ((ptxL ts).map List.length).sum + (6 * prsL ts + 12 * cntR news b (b + cntL ts))
 | [], b, _, _ => by simp [wtxL, ptxL]
 | t :: r, b, hs, hw => by
  simp only [ShowsL] at hs
  have h1 := ftx_more hr hn H t b hs.1 (hw t (by simp))
  have h2 := wtxL_more hr hn H r (b + t.cnt) hs.2 (fun x hx => hw x (by simp [hx]))
  have hc := cnt_pos' t
  have hidx : (((b + t.cnt : Nat) : Int) - 1) = ((b + t.cnt - 1 : Nat) : Int) := by omega
  have h3 := opT_cl ((b + t.cnt - 1 : Nat) : Int) news 0 (by omega)
  have h4 := cntR_one news (b + t.cnt - 1)
  rw [show b + t.cnt - 1 + 1 = b + t.cnt by omega] at h4
  have h5 := cntR_split news (a := b) (b := b + t.cnt - 1) (c := b + t.cnt) (by omega) (by omega)
  have h6 := cntR_split news (a := b) (b := b + t.cnt) (c := b + t.cnt + cntL r) (by omega) (by omega)
  simp only [wtxL, ptxL, List.map_cons, List.sum_cons, prsL, cntL, List.length_append, hidx, clT, List.length_replicate]
  rw [show b + (t.cnt + cntL r) = b + t.cnt + cntL r by omega]
  omega
end
theorem wtx_more {regs news : List Int} (hr : ∀ i, rgV regs i ≤ 9999) (hn : news.length ≤ 150) {ns : List NR} (H : LyT regs ns) (t : PT) (hs : Shows ns t 0) (hw : NoNew t) : (t.wtx regs news 0).length ≤ t.ptx.length + 6 * t.prs + 12 * news.length := by
 have h1 := wtxL_more hr hn H [t] 0 (by simp only [ShowsL, and_true]; exact hs) (by simpa using hw)
 have h2 := cntR_le news 0 (0 + cntL [t])
 simp only [wtxL, ptxL, List.map_cons, List.map_nil, List.sum_cons, List.sum_nil, prsL, Nat.add_zero] at h1
 unfold PT.wtx
 omega
mutual
theorem PosN.in_ : ∀ {t : PT} {ms : List NR} {lo hi : Nat}, PosN t ms lo hi → ∀ n ∈ ms, lo ≤ n.at_ ∧ n.at_ < n.beh ∧ n.beh ≤ hi
 | .num p _, ms, lo, hi, h, n, hn => by simp only [PosN] at h; obtain ⟨m, rfl, h1, h2, h3, h4⟩ := h; simp only [List.mem_singleton] at hn; subst hn; omega
 | .name p _, ms, lo, hi, h, n, hn => by simp only [PosN] at h; obtain ⟨m, rfl, h1, h2, h3, h4⟩ := h; simp only [List.mem_singleton] at hn; subst hn; omega
 | .node p _ _ _ kids, ms, lo, hi, h, n, hn => by
  simp only [PosN] at h
  obtain ⟨ks, m, rfl, h1, h2, h3, h4, h5⟩ := h
  rcases List.mem_append.1 hn with hn | hn
  ·have := PosNs.in_ h3 n hn; omega
  ·simp only [List.mem_singleton] at hn; subst hn; omega
theorem PosNs.in_ : ∀ {ts : List PT} {ms : List NR} {lo hi : Nat}, PosNs ts ms lo hi → ∀ n ∈ ms, lo ≤ n.at_ ∧ n.at_ < n.beh ∧ n.beh ≤ hi
 | [], ms, lo, hi, h, n, hn => by simp only [PosNs] at h; rw [h.1] at hn; simp at hn
 | t :: r, ms, lo, hi, h, n, hn => by
  simp only [PosNs] at h
  obtain ⟨a, c, mid, rfl, h1, h2⟩ := h
  have hl := h1.lt
  have hr := h2.le
  rcases List.mem_append.1 hn with hn | hn
  ·have := PosN.in_ h1 n hn; omega
  ·have := PosNs.in_ h2 n hn; omega
end
mutual
theorem PosN.len : ∀ {t : PT} {ms : List NR} {lo hi : Nat}, PosN t ms lo hi → ms.length = t.cnt
 | .num p _, ms, lo, hi, h => by simp only [PosN] at h; obtain ⟨m, rfl, _⟩ := h; rfl
 | .name p _, ms, lo, hi, h => by simp only [PosN] at h; obtain ⟨m, rfl, _⟩ := h; rfl
 | .node p _ _ _ kids, ms, lo, hi, h => by
  simp only [PosN] at h
  obtain ⟨ks, m, rfl, h1, h2, h3, h4, h5⟩ := h
  simp only [PT.cnt, List.length_append, List.length_singleton, PosNs.len h3]; omega
theorem PosNs.len : ∀ {ts : List PT} {ms : List NR} {lo hi : Nat}, PosNs ts ms lo hi → ms.length = cntL ts
 | [], ms, lo, hi, h => by simp only [PosNs] at h; rw [h.1]; rfl
 | t :: r, ms, lo, hi, h => by
  simp only [PosNs] at h
  obtain ⟨a, c, mid, rfl, h1, h2⟩ := h
  simp only [cntL, List.length_append, PosN.len h1, PosNs.len h2]
end
def Emb (ns ms : List NR) (b : Nat) : Prop := ∀ (k : Nat) (n : NR), ms[k]? = some n → ns[b + k]? = some n
theorem Emb.left {ns a c : List NR} {b : Nat} (h : Emb ns (a ++ c) b) : Emb ns a b := fun k n hn => h k n (by rw [List.getElem?_append_left (List.getElem?_eq_some_iff.1 hn).1]; exact hn)
theorem Emb.right {ns a c : List NR} {b : Nat} (h : Emb ns (a ++ c) b) : Emb ns c (b + a.length) := fun k n hn => by
 have := h (a.length + k) n (by rw [List.getElem?_append_right (by omega), Nat.add_sub_cancel_left]; exact hn)
 rw [Nat.add_assoc]; exact this
theorem TextC_any (w0 : World) (hit : ItoaOk w0) (RK : List Nat) (NW : List (List Nat)) (cv nv : Value) (hc : RowI w0 cv RK) (hRK : ∀ x ∈ RK, x ≤ 999) (hN : NwIn w0 nv NW) (t : PT) : NoNew t → TextC w0 RK NW cv nv t := by
 induction t using PT.ind with
 | h1 p s => intro _; exact TextC_num w0 hit RK NW cv nv hc hN p s
 | h2 p s => intro _; exact TextC_name w0 hit RK NW cv nv hc hN p s
 | h3 p k nm rg kids ih =>
  intro hn
  cases hn with
  | node hk hn => exact TextC_node w0 hit RK NW cv nv hc hRK hN p k nm rg kids hk (fun x hx => ih x hx (hn x hx))
def nwsF : List Int → Nat → Int → List Nat
 | [], _, _ => []
 | a :: l, r, i => (if a = i then [r] else []) ++ nwsF l (r + 1) i
theorem nwsF_text (i : Int) (s : List UInt8) : ∀ (l : List Int) (r : Nat), newsT (nwsF l r i) s = opT l r i ++ (s ++ List.replicate (clN l i) 41)
 | [], _ => by simp [nwsF, newsT, opT, clN]
 | a :: l, r => by
  have ih := nwsF_text i s l (r + 1)
  simp only [nwsF, opT]
  by_cases h : a = i
  ·have hc : clN (a :: l) i = clN l i + 1 := by unfold clN; simp [h]
   rw [if_pos h, if_pos h, hc]
   simp only [List.singleton_append, newsT, ih, opR]
   simp [List.replicate_succ', List.append_assoc]
  ·have hc : clN (a :: l) i = clN l i := by unfold clN; simp [h]
   rw [if_neg h, if_neg h, hc]
   simp only [List.nil_append]
   rw [ih]
def SameL (R N : List Int) (RK : List Nat) (NW : List (List Nat)) (xs : List (PT × Nat × Nat)) (b : Nat) : Prop := ∀ (j : Nat) (x : PT × Nat × Nat), xs[j]? = some x → NW.getD x.2.1 [] = nwsF N 0 ((b + j : Nat) : Int) ∧ ∀ p k nm rg kids, x.1 = .node p k nm rg kids → rgT R (b + j) = if k = .pair then [32, 35] ++ decDigits (RK.getD x.2.2 0) else []
theorem SameL.left {R N : List Int} {RK : List Nat} {NW : List (List Nat)} {xs ys : List (PT × Nat × Nat)} {b : Nat} (h : SameL R N RK NW (xs ++ ys) b) : SameL R N RK NW xs b := fun j x hx => h j x (by rw [List.getElem?_append_left (List.getElem?_eq_some_iff.1 hx).1]; exact hx)
theorem SameL.right {R N : List Int} {RK : List Nat} {NW : List (List Nat)} {xs ys : List (PT × Nat × Nat)} {b : Nat} (h : SameL R N RK NW (xs ++ ys) b) : SameL R N RK NW ys (b + xs.length) := fun j x hx => by
 have := h (xs.length + j) x (by rw [List.getElem?_append_right (by omega), Nat.add_sub_cancel_left]; exact hx)
 rw [← Nat.add_assoc] at this
 exact this
mutual
theorem rtx_wtx (R N : List Int) (RK : List Nat) (NW : List (List Nat)) : ∀ (t : PT) (id site b : Nat), NoNew t → SameL R N RK NW (t.subs id site) b → t.rtx RK NW id site = t.wtx R N b
 | .num p s, id, site, b, _, h => by
  have h0 := (h 0 (.num p s, id, site) rfl).1
  simp only [PT.rtx, PT.wtx, PT.ftx, PT.cnt]
  rw [show (((b + 1 : Nat) : Int) - 1) = ((b + 0 : Nat) : Int) by omega, h0, nwsF_text]; rfl
 | .name p s, id, site, b, _, h => by
  have h0 := (h 0 (.name p s, id, site) rfl).1
  simp only [PT.rtx, PT.wtx, PT.ftx, PT.cnt]
  rw [show (((b + 1 : Nat) : Int) - 1) = ((b + 0 : Nat) : Int) by omega, h0, nwsF_text]; rfl
 | .node p k nm rg kids, id, site, b, hn, h => by
  cases hn with
  | node hk hn =>
  simp only [PT.subs] at h
  have hl := subsL_len kids (id + 1) (site + if k = .pair then 1 else 0)
  obtain ⟨h0, h1⟩ := h.right 0 (.node p k nm rg kids, id, site) rfl
  rw [hl, Nat.add_zero] at h0 h1
  have h2 := h1 p k nm rg kids rfl
  have h3 := rtxL_wtx R N RK NW kids (id + 1) (site + if k = .pair then 1 else 0) b hn h.left
  simp only [PT.rtx, PT.wtx, PT.ftx, if_neg hk, PT.cnt]
  rw [show (((b + (1 + cntL kids) : Nat) : Int) - 1) = ((b + cntL kids : Nat) : Int) by omega, h0, nwsF_text, h3, h2]; rfl
theorem rtxL_wtx (R N : List Int) (RK : List Nat) (NW : List (List Nat)) : ∀ (ts : List PT) (id site b : Nat), (∀ x ∈ ts, NoNew x) → SameL R N RK NW (subsL ts id site) b → rtxL RK NW ts id site = wtxL R N ts b
 | [], _, _, _, _, _ => rfl
 | t :: r, id, site, b, hn, h => by
  simp only [subsL] at h
  have hr := h.right
  rw [subs_len] at hr
  have h1 := rtx_wtx R N RK NW t id site b (hn t (by simp)) h.left
  have h2 := rtxL_wtx R N RK NW r (id + t.cnt) (site + t.prs) (b + t.cnt) (fun x hx => hn x (by simp [hx])) hr
  simp only [rtxL, wtxL, h1, h2, PT.wtx]
end
theorem Tryz.undNws : Tryz.prog.underlying 80 = some (.slice 42) := by kernel_rfl
theorem Tryz.infoInts : (Tryz.prog.info? 42).map (fun i => (i.zero, i.size, i.bytes)) = some (some (.slice none 0 0), 1, 24) := by kernel_rfl
def rkL (c : List Nat) : Nat → List Nat × Nat
 | 0 => ([], 0)
 | i + 1 => if c.getD i 0 = i then ((rkL c i).1 ++ [(rkL c i).2], (rkL c i).2 + 1) else ((rkL c i).1 ++ [(rkL c i).1.getD (c.getD i 0) 0], (rkL c i).2)
theorem rkL_len (c : List Nat) : ∀ i, (rkL c i).1.length = i
 | 0 => rfl
 | i + 1 => by
  have := rkL_len c i
  simp only [rkL]; split <;> simp [this]
theorem rkL_le (c : List Nat) : ∀ i, (rkL c i).2 ≤ i
 | 0 => Nat.le_refl _
 | i + 1 => by
  have := rkL_le c i
  simp only [rkL]; split <;> simp <;> omega
def rkR (c : List Nat) (n i : Nat) : List Nat := (rkL c i).1 ++ List.replicate (n - i) 0
theorem rkR_len (c : List Nat) (n i : Nat) (h : i ≤ n) : (rkR c n i).length = n := by simp [rkR, rkL_len]; omega
theorem getD_pad (l : List Nat) (m j : Nat) : (l ++ List.replicate m 0).getD j 0 = l.getD j 0 := by
 simp only [List.getD]
 by_cases h : j < l.length
 ·rw [List.getElem?_append_left h]
 ·rw [List.getElem?_append_right (by omega), List.getElem?_eq_none (by omega : l.length ≤ j), List.getElem?_replicate]
  split <;> rfl
theorem rkR_set (c : List Nat) (n i x : Nat) (h : i < n) : (rkR c n i).set i x = (rkL c i).1 ++ [x] ++ List.replicate (n - (i + 1)) 0 := by
 unfold rkR
 rw [List.set_append_right _ _ (by rw [rkL_len]; exact Nat.le_refl _), rkL_len, Nat.sub_self, show n - i = (n - (i + 1)) + 1 by omega, List.replicate_succ]
 simp
theorem rkR_yes (c : List Nat) (n i : Nat) (h : i < n) (hc : c.getD i 0 = i) : rkR c n (i + 1) = (rkR c n i).set i (rkL c i).2 ∧ (rkL c (i + 1)).2 = (rkL c i).2 + 1 := by
 rw [rkR_set c n i _ h]
 constructor
 ·unfold rkR; simp only [rkL]; rw [if_pos hc]
 ·simp only [rkL]; rw [if_pos hc]
theorem rkR_no (c : List Nat) (n i : Nat) (h : i < n) (hc : c.getD i 0 ≠ i) : rkR c n (i + 1) = (rkR c n i).set i ((rkR c n i).getD (c.getD i 0) 0) ∧ (rkL c (i + 1)).2 = (rkL c i).2 := by
 rw [rkR_set c n i _ h]
 constructor
 ·unfold rkR; simp only [rkL]; rw [if_neg hc, getD_pad]
 ·simp only [rkL]; rw [if_neg hc]
def hmId (rl : List Rec) (TY : List Ty) (r : Nat) : Option Nat := ((hmF rl (hmSaid TY r rl) rl.length).bind fun i => rl[i]?).map Rec.id
def nwR (rl : List Rec) (TY : List Ty) : Nat → List (List Nat)
 | 0 => List.replicate rl.length []
 | r + 1 => match hmId rl TY r with
  | none => nwR rl TY r
  | some id => (nwR rl TY r).set id ((nwR rl TY r).getD id [] ++ [r])
theorem nwR_len (rl : List Rec) (TY : List Ty) : ∀ r, (nwR rl TY r).length = rl.length
 | 0 => by simp [nwR]
 | r + 1 => by
  have := nwR_len rl TY r
  simp only [nwR]; split
  ·exact this
  ·rw [List.length_set]; exact this
theorem nwR_sm (rl : List Rec) (TY : List Ty) : ∀ r, ∀ l ∈ nwR rl TY r, l.length ≤ r ∧ ∀ x ∈ l, x < r
 | 0, l, h => by
  simp only [nwR] at h
  rw [(List.mem_replicate.1 h).2]; simp
 | r + 1, l, h => by
  have ih := nwR_sm rl TY r
  simp only [nwR] at h
  split at h
  ·obtain ⟨h1, h2⟩ := ih l h
   exact ⟨by omega, fun x hx => by have := h2 x hx; omega⟩
  ·next id _ =>
   rcases List.mem_or_eq_of_mem_set h with h | h
   ·obtain ⟨h1, h2⟩ := ih l h
    exact ⟨by omega, fun x hx => by have := h2 x hx; omega⟩
   ·have hg : (nwR rl TY r).getD id [] = [] ∨ (nwR rl TY r).getD id [] ∈ nwR rl TY r := by
     simp only [List.getD]
     cases hx : (nwR rl TY r)[id]? with
     | none => exact .inl rfl
     | some y => exact .inr (List.mem_of_getElem? hx)
    have h3 : ((nwR rl TY r).getD id []).length ≤ r ∧ ∀ x ∈ (nwR rl TY r).getD id [], x < r := by
     rcases hg with hg | hg
     ·rw [hg]; simp
     ·exact ih _ hg
    subst h
    refine ⟨by rw [List.length_append]; simp; exact h3.1, fun x hx => ?_⟩
    rcases List.mem_append.1 hx with hx | hx
    ·have := h3.2 x hx; omega
    ·simp at hx; omega
structure NwM (base : Nat) (w : World) (gn : Nat) (NW : List (List Nat)) (vs : List Value) : Prop where
 row : w.ownsRow base 42 1 (.slice (some ⟨gn, 0, none⟩) NW.length NW.length) NW.length vs
 at_ : ∀ (i : Nat) (l : List Nat), NW[i]? = some l → ∃ v, vs[i]? = some v ∧ w.ownsRow base 3 1 v l.length (natVs l) ∧ v.ownBlock ≠ some gn
 ap : ∀ (i j g : Nat) (u v : Value), vs[i]? = some u → vs[j]? = some v → u.ownBlock = some g → v.ownBlock = some g → i = j
theorem NwM.below {base : Nat} {w w' : World} {gn : Nat} {NW : List (List Nat)} {vs : List Value} (h : NwM base w gn NW vs) (hb : Below w.heap.size w w') : NwM base w' gn NW vs := by
 refine ⟨owns_blk h.row (fun k hk => hb.block k (h.row.lt k hk).2), fun i l hl => ?_, h.ap⟩
 obtain ⟨v, h1, h2, h3⟩ := h.at_ i l hl
 exact ⟨v, h1, owns_blk h2 (fun k hk => hb.block k (h2.lt k hk).2), h3⟩
theorem NwM.nw {base : Nat} {w : World} {gn : Nat} {NW : List (List Nat)} {vs : List Value} (h : NwM base w gn NW vs) (hl : NW.length ≤ 9000) (hs : ∀ l ∈ NW, l.length ≤ 1000 ∧ ∀ x ∈ l, x ≤ 999) : NwIn w (.slice (some ⟨gn, 0, none⟩) NW.length NW.length) NW := by
 refine ⟨⟨gn, _, rfl, (h.row.lt gn rfl).2, fun i l hi => ?_⟩, hl, hs⟩
 obtain ⟨v, h1, h2, h3⟩ := h.at_ i l hi
 refine ⟨v, ?_, ?_⟩
 ·rw [h.row.cellAt i (by have := (List.getElem?_eq_some_iff.1 hi).1; omega)]; exact h1
 ·obtain ⟨va, vc, e1, e2⟩ := row_cells h2
  refine ⟨va, vc, e1, fun j x hx => ?_⟩
  obtain ⟨hj, hx'⟩ := List.getElem?_eq_some_iff.1 hx
  obtain ⟨g, f1, f2, f3⟩ := e2 j hj
  exact ⟨g, f1, f2, by rw [← hx']; exact f3⟩
theorem NwM.add {base : Nat} {w w' : World} {gn id r g cap : Nat} {NW : List (List Nat)} {vs : List Value} {v : Value} {l : List Nat} (h : NwM base w gn NW vs) (hl : NW[id]? = some l) (hv : vs[id]? = some v) (hg : w.grownBy w' v.ownBlock)
  (hown : w'.ownsRow base 3 1 (.slice (some ⟨g, 0, none⟩) (l.length + 1) cap) (l.length + 1) (natVs l ++ [.int .i64 r])) (hor : v.ownBlock = some g ∨ w.heap.size ≤ g) :
  NwM base (w'.setCell ⟨gn, id, none⟩ (.slice (some ⟨g, 0, none⟩) (l.length + 1) cap)) gn (NW.set id (l ++ [r])) (vs.set id (.slice (some ⟨g, 0, none⟩) (l.length + 1) cap)) := by
 obtain ⟨v', e1, e2, e3⟩ := h.at_ id l hl
 rw [hv] at e1
 cases e1
 have hgn := (h.row.lt gn rfl).2
 have hggn : g ≠ gn := by
  rcases hor with e | e
  ·intro h; subst h; exact e3 e
  ·omega
 have hrow' : w'.ownsRow base 42 1 (.slice (some ⟨gn, 0, none⟩) NW.length NW.length) NW.length vs := owns_blk h.row (fun k hk => hg.block k (h.row.lt k hk).2 (fun e => by
  simp only [Value.ownBlock, Option.some.injEq] at hk; subst hk; exact e3 e.symm))
 have hidl : id < NW.length := (List.getElem?_eq_some_iff.1 hl).1
 refine ⟨?_, fun i l' hi => ?_, fun i j k u1 u2 h1 h2 h3 h4 => ?_⟩
 ·rw [List.length_set]; exact own_set hrow' id _
 ·rw [List.getElem?_set] at hi
  by_cases hii : id = i
  ·subst hii
   rw [if_pos rfl, if_pos hidl] at hi
   cases hi
   refine ⟨.slice (some ⟨g, 0, none⟩) (l.length + 1) cap, ?_, ?_, ?_⟩
   ·rw [List.getElem?_set_self (List.getElem?_eq_some_iff.1 hv).1]
   ·rw [List.length_append, show natVs (l ++ [r]) = natVs l ++ [.int .i64 r] by simp [natVs]]
    exact owns_blk hown (fun k hk => blk_other _ _ (by simp only [Value.ownBlock, Option.some.injEq] at hk; subst hk; simpa using hggn))
   ·simpa [Value.ownBlock] using hggn
  ·rw [if_neg hii] at hi
   obtain ⟨u, f1, f2, f3⟩ := h.at_ i l' hi
   refine ⟨u, by rw [List.getElem?_set_ne hii]; exact f1, ?_, f3⟩
   refine owns_blk f2 (fun k hk => ?_)
   rw [blk_other _ _ (by simp only; intro e; subst e; exact f3 hk)]
   exact hg.block k (f2.lt k hk).2 (fun e => hii (h.ap id i k v u hv f1 e.symm hk))
 ·rw [List.getElem?_set] at h1 h2
  by_cases hi : id = i
  ·by_cases hj : id = j
   ·omega
   ·subst hi
    rw [if_pos rfl, if_pos (List.getElem?_eq_some_iff.1 hv).1] at h1
    cases h1
    rw [if_neg hj] at h2
    simp only [Value.ownBlock, Option.some.injEq] at h3
    subst h3
    rcases hor with e | e
    ·exact h.ap id j _ v u2 hv h2 e h4
    ·obtain ⟨l2, hl2⟩ : ∃ l2, NW[j]? = some l2 := by
      have := (List.getElem?_eq_some_iff.1 h2).1
      have hrl := h.row.1
      exact ⟨_, List.getElem?_eq_getElem (by omega)⟩
     obtain ⟨u, f1, f2, _⟩ := h.at_ j l2 hl2
     rw [h2] at f1; cases f1
     have := (f2.lt _ h4).2
     omega
  ·rw [if_neg hi] at h1
   by_cases hj : id = j
   ·subst hj
    rw [if_pos rfl, if_pos (List.getElem?_eq_some_iff.1 hv).1] at h2
    cases h2
    simp only [Value.ownBlock, Option.some.injEq] at h4
    subst h4
    rcases hor with e | e
    ·exact h.ap i id _ u1 v h1 hv h3 e
    ·obtain ⟨l2, hl2⟩ : ∃ l2, NW[i]? = some l2 := by
      have := (List.getElem?_eq_some_iff.1 h1).1
      have hrl := h.row.1
      exact ⟨_, List.getElem?_eq_getElem (by omega)⟩
     obtain ⟨u, f1, f2, _⟩ := h.at_ i l2 hl2
     rw [h1] at f1; cases f1
     have := (f2.lt _ h3).2
     omega
   ·rw [if_neg hj] at h2
    exact h.ap i j k u1 u2 h1 h2 h3 h4
end Go.Proofs.YtpicaknklgccoaaGreatDoor
