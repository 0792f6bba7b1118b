import Derived.Test.YtpicaknklgccoaaGreatDoorX12
import Derived.Test.YtpicaknklgccoaaGreatDoorX31
/- leaseref's Eval. -/
namespace Go.Proofs.YtpicaknklgccoaaGreatDoor
open Go.RowKit

def GSmall (G : TEnv) : Prop := ∀ s U, look G s = some U → U.size ≤ 63
theorem GSmall.snoc {G : TEnv} {nm : List UInt8} {A : Ty} (h : GSmall G) (ha : A.size ≤ 63) : GSmall (G ++ [(nm, A)]) := by
  intro s U hs
  rw [look_snoc] at hs
  split at hs
  · cases hs; exact ha
  · exact h s U hs
theorem WT.small {G : TEnv} {t : PT} {T : Ty} (h : WT G t T) : GSmall G → T.size ≤ 63 := by
  induction h with
  | num => intro _; simp [Ty.size]
  | name hl => intro hG; exact hG _ _ hl
  | let_ ha hb iha ihb => intro hG; exact ihb (hG.snoc (iha hG))
  | pair ha hb hsz iha ihb => intro _; exact hsz
  | fst ha iha => intro hG; have := iha hG; simp only [Ty.size] at this; omega
  | snd ha iha => intro hG; have := iha hG; simp only [Ty.size] at this; omega
  | if_ ha hb hc iha ihb ihc => intro hG; exact ihb hG
  | two hk ha hb iha ihb => intro _; simp [Ty.size]
  | loop ha hb hc iha ihb ihc => intro hG; exact ihb hG
  | new ha iha => intro hG; exact iha hG

theorem work_any {w0 : World} (hit : ItoaOk w0) (yb fuel : Nat) {G : TEnv} {t : PT} {T : Ty} (h : WT G t T) : GSmall G → t.tame → NoNew t → TWork w0 yb fuel t G := by
  induction h with
  | num => intro _ ht _; exact work_of (work_num hit yb fuel _ _ _ ht)
  | name hl => intro _ _ _; exact work_of (work_name yb fuel _ _ _)
  | let_ ha hb iha ihb =>
    intro hG ht hn
    simp only [PT.tame, tameL] at ht
    exact work_of (work_let yb fuel _ _ _ _ _ _ _ ha ht.2.1 (hn.kid _ (by simp)) (iha hG ht.2.1 (hn.kid _ (by simp))) (ihb (hG.snoc (ha.small hG)) ht.2.2.1 (hn.kid _ (by simp))))
  | pair ha hb hsz iha ihb =>
    intro hG ht hn
    simp only [PT.tame, tameL] at ht
    exact work_of (work_parts yb fuel _ _ _ _ _ _ (by decide) (by decide) (by decide) (parts_pair yb fuel _ _ _ _ _ _ _ _ ha hb (by simp only [Ty.size] at hsz; omega) ht.2.1 ht.2.2.1 (hn.kid _ (by simp)) (hn.kid _ (by simp)) (iha hG ht.2.1 (hn.kid _ (by simp))) (ihb hG ht.2.2.1 (hn.kid _ (by simp)))))
  | fst ha iha =>
    intro hG ht hn
    simp only [PT.tame, tameL] at ht
    exact work_of (work_parts yb fuel _ _ _ _ _ _ (by decide) (by decide) (by decide) (parts_fst yb fuel _ _ _ _ _ _ _ ha (ha.small hG) ht.2.1 (hn.kid _ (by simp)) (iha hG ht.2.1 (hn.kid _ (by simp)))))
  | snd ha iha =>
    intro hG ht hn
    simp only [PT.tame, tameL] at ht
    exact work_of (work_parts yb fuel _ _ _ _ _ _ (by decide) (by decide) (by decide) (parts_snd yb fuel _ _ _ _ _ _ _ ha (ha.small hG) ht.2.1 (hn.kid _ (by simp)) (iha hG ht.2.1 (hn.kid _ (by simp)))))
  | if_ ha hb hc iha ihb ihc =>
    intro hG ht hn
    simp only [PT.tame, tameL] at ht
    exact work_of (work_if yb fuel _ _ _ _ _ _ _ ha ht.2.1 (hn.kid _ (by simp)) (iha hG ht.2.1 (hn.kid _ (by simp))) (ihb hG ht.2.2.1 (hn.kid _ (by simp))) (ihc hG ht.2.2.2.1 (hn.kid _ (by simp))))
  | two hk ha hb iha ihb =>
    intro hG ht hn
    simp only [PT.tame, tameL] at ht
    have i1 := iha hG ht.2.1 (hn.kid _ (by simp))
    have i2 := ihb hG ht.2.2.1 (hn.kid _ (by simp))
    rcases hk with rfl | rfl | rfl
    · exact work_of (work_parts yb fuel _ _ _ _ _ _ (by decide) (by decide) (by decide) (parts_add hit yb fuel _ _ _ _ _ _ ha hb ht.2.1 ht.2.2.1 (hn.kid _ (by simp)) (hn.kid _ (by simp)) i1 i2))
    · exact work_of (work_parts yb fuel _ _ _ _ _ _ (by decide) (by decide) (by decide) (parts_sub hit yb fuel _ _ _ _ _ _ ha hb ht.2.1 ht.2.2.1 (hn.kid _ (by simp)) (hn.kid _ (by simp)) i1 i2))
    · exact work_of (work_parts yb fuel _ _ _ _ _ _ (by decide) (by decide) (by decide) (parts_less yb fuel _ _ _ _ _ _ ha hb ht.2.1 ht.2.2.1 (hn.kid _ (by simp)) (hn.kid _ (by simp)) i1 i2))
  | loop ha hb hc iha ihb ihc =>
    intro hG ht hn
    simp only [PT.tame, tameL] at ht
    exact work_of (work_loop yb fuel _ _ _ _ _ _ _ _ ha hb hc ht.2.1 ht.2.2.1 ht.2.2.2.1 (hn.kid _ (by simp)) (hn.kid _ (by simp)) (hn.kid _ (by simp)) (iha hG ht.2.1 (hn.kid _ (by simp))) (ihb hG ht.2.2.1 (hn.kid _ (by simp))) (ihc (hG.snoc (hb.small hG)) ht.2.2.2.1 (hn.kid _ (by simp))))
  | new ha iha => intro _ _ hn; exact absurd rfl hn.kw

abbrev noRes : Value := .agg #[.string ⟨#[]⟩, .int .i64 0, .int .i64 0, .int .i64 0, .int .i64 0]
set_option maxRecDepth 100000 in
set_option maxHeartbeats 1000000 in
theorem refEval_bad (s : ByteArray) (fuel : Int) (w : World) (x : Nat) (hx : x ≠ 0) (hst : ∀ w, Calls Tryz.prog 33 #[.string s, .bool false] w fun v w' => ∃ p q y, v = .returned (.tuple #[.pointer p, .pointer q, .int .i64 x, .int .i64 y]) ∧ Below w.heap.size w w') :
    Calls Tryz.prog 13 #[.string s, .int .i64 fuel] w fun v w' => v = .returned (.tuple #[noRes, .int .i64 x]) ∧ Below w.heap.size w w' := by
  have qx : ((x : Int) != 0) = true := by simp; omega
  have HR : Hid _ := hst
  clear hst
  go_enter Tryz.func13, Tryz.ntmps13
  go_wp2_with fail
  refine (HR.out _).mono ?_
  rintro _ w1 ⟨p, q, y, rfl, hb⟩
  have hq : w1.heap[w.heap.size]? = some (.cells #[.string ⟨#[]⟩, .int .i64 0, .int .i64 0, .int .i64 0, .int .i64 0] 23) := kept1 hb
  have HB : Hid _ := below1 hb
  clear hb HR
  go_wp2_with (refine st_row rfl 23 (.tmp 4) (.tmp 21) rfl w.heap.size #[.string ⟨#[]⟩, .int .i64 0, .int .i64 0, .int .i64 0, .int .i64 0] rfl rfl 23 _ hq Tryz.infoRes rfl (by simp [Value.oneCell']) ?_; intro W hW hWs hWo hW1 hW2 hW3)
  obtain ⟨s0, s1, s2, s3, s4⟩ := res_cells hW
  have HBN : Hid _ := below_new HB.out (Nat.le_refl _) hWs hWo hW1 hW2 hW3
  clear hW hWs hWo hW1 hW2 hW3 HB hq
  go_wp2
  refine bodyPost_ret (v := .tuple #[noRes, .int .i64 x]) (by simp [results, Tryz.results13, go_sem, s0, s1, s2, s3, s4]) rfl ⟨rfl, HBN.out⟩

set_option maxRecDepth 100000 in
set_option maxHeartbeats 1000000 in
theorem refEval_arg (s : ByteArray) (fuel : Int) (w : World) (hf : fuel < 0 ∨ 20000 < fuel) (hst : ∀ w, Calls Tryz.prog 33 #[.string s, .bool false] w fun v w' => ∃ p q y, v = .returned (.tuple #[.pointer p, .pointer q, .int .i64 0, .int .i64 y]) ∧ Below w.heap.size w w') :
    Calls Tryz.prog 13 #[.string s, .int .i64 fuel] w fun v w' => v = .returned (.tuple #[noRes, .int .i64 11]) ∧ Below w.heap.size w w' := by
  have HR : Hid _ := hst
  clear hst
  obtain ⟨b0, hb0⟩ : ∃ b0, b0 = decide (fuel < 0) := ⟨_, rfl⟩
  by_cases hn : fuel < 0
  · clear hf hb0
    go_enter Tryz.func13, Tryz.ntmps13
    go_wp2_with fail
    refine (HR.out _).mono ?_
    rintro _ w1 ⟨p, q, y, rfl, hb⟩
    have hq : w1.heap[w.heap.size]? = some (.cells #[.string ⟨#[]⟩, .int .i64 0, .int .i64 0, .int .i64 0, .int .i64 0] 23) := kept1 hb
    have HB : Hid _ := below1 hb
    clear hb HR
    go_wp2_with (refine st_row rfl 23 (.tmp 4) (.tmp 29) rfl w.heap.size #[.string ⟨#[]⟩, .int .i64 0, .int .i64 0, .int .i64 0, .int .i64 0] rfl rfl 23 _ hq Tryz.infoRes rfl (by simp [Value.oneCell']) ?_; intro W hW hWs hWo hW1 hW2 hW3)
    obtain ⟨s0, s1, s2, s3, s4⟩ := res_cells hW
    have HBN : Hid _ := below_new HB.out (Nat.le_refl _) hWs hWo hW1 hW2 hW3
    clear hW hWs hWo hW1 hW2 hW3 HB hq
    go_wp2
    refine bodyPost_ret (v := .tuple #[noRes, .int .i64 11]) (by simp [results, Tryz.results13, go_sem, s0, s1, s2, s3, s4]) rfl ⟨rfl, HBN.out⟩
  · have hf2 : 20000 < fuel := by omega
    clear hf hb0
    go_enter Tryz.func13, Tryz.ntmps13
    go_wp2_with fail
    refine (HR.out _).mono ?_
    rintro _ w1 ⟨p, q, y, rfl, hb⟩
    have hq : w1.heap[w.heap.size]? = some (.cells #[.string ⟨#[]⟩, .int .i64 0, .int .i64 0, .int .i64 0, .int .i64 0] 23) := kept1 hb
    have HB : Hid _ := below1 hb
    clear hb HR
    go_wp2_with (refine st_row rfl 23 (.tmp 4) (.tmp 29) rfl w.heap.size #[.string ⟨#[]⟩, .int .i64 0, .int .i64 0, .int .i64 0, .int .i64 0] rfl rfl 23 _ hq Tryz.infoRes rfl (by simp [Value.oneCell']) ?_; intro W hW hWs hWo hW1 hW2 hW3)
    obtain ⟨s0, s1, s2, s3, s4⟩ := res_cells hW
    have HBN : Hid _ := below_new HB.out (Nat.le_refl _) hWs hWo hW1 hW2 hW3
    clear hW hWs hWo hW1 hW2 hW3 HB hq
    go_wp2
    refine bodyPost_ret (v := .tuple #[noRes, .int .i64 11]) (by simp [results, Tryz.results13, go_sem, s0, s1, s2, s3, s4]) rfl ⟨rfl, HBN.out⟩

set_option maxRecDepth 100000 in
set_option maxHeartbeats 2000000 in
theorem refEval_ok (s : ByteArray) (fuel : Nat) (w : World) (hfu : fuel ≤ 20000) (e : PT) (hst : ∀ w, Calls Tryz.prog 33 #[.string s, .bool false] w fun v w' => ∃ b q y, v = .returned (.tuple #[ptr b, .pointer q, .int .i64 0, .int .i64 y]) ∧ Below w.heap.size w w' ∧ IsT w' (fun k => k < w'.heap.size) e 0 0 b)
    (hwk : ∀ w1, Below w.heap.size w w1 → ∀ yb, TWork w1 yb fuel e []) (hcnt : e.cnt ≤ 9000) (R : Vl × ESt) (hR : R = ev fuel e [] ⟨0, 0, 0⟩) :
    Calls Tryz.prog 13 #[.string s, .int .i64 fuel] w fun v w' => v = .returned (.tuple #[evalV R, .int .i64 R.2.e]) ∧ Below w.heap.size w w' := by
  have HW : Hid _ := hwk
  have HR : Hid _ := hR
  unfold ptr at hst
  have HST : Hid _ := hst
  clear hwk hR hst
  by_cases he : R.2.e = 0
  · have qe : ((R.2.e : Int) != 0) = false := by rw [he]; rfl
    have hV : evalV R = .agg #[.string (bs R.1.txt), .int .i64 R.2.steps, .int .i64 R.2.cells, .int .i64 R.2.cells, .int .i64 R.2.cells] := by unfold evalV; rw [if_neg (by simpa using he)]
    rw [hV]
    have HE : (R.2.e : Int) = 0 := by omega
    rw [HE]
    clear hV he HE
    go_enter Tryz.func13, Tryz.ntmps13
    go_wp2_with fail
    refine Calls.mono (HST.out _) ?_
    rintro _ w1 ⟨b, q, y, rfl, hb0, hT⟩
    have hq0 : w1.heap[w.heap.size]? = some (.cells #[.string ⟨#[]⟩, .int .i64 0, .int .i64 0, .int .i64 0, .int .i64 0] 23) := kept1 hb0
    have hb := below1 hb0
    have hql := blk_lt hq0
    have hin : TaIn w1 (w1.alloc (.cells (taCells (.slice none 0 0) (.slice none 0 0) fuel ⟨0, 0, 0⟩) 70)) w1.heap.size (.slice none 0 0) (.slice none 0 0) [] fuel ⟨0, 0, 0⟩ :=
      ⟨(Below.refl _ _).alloc (Nat.le_refl _) _, Nat.le_refl _, blk_new _ _, World.ownsRow_nil _ _ _ _, World.ownsRow_nil _ _ _ _, by simp [Value.ownBlock], by simp [Value.ownBlock], fun g hg => by simp [Value.ownBlock] at hg⟩
    have hc := HW.out w1 hb w1.heap.size 0 0 b _ [] ⟨0, 0, 0⟩ _ _ _ hT hin (fun _ s U h => by simp [look] at h) (by simpa using hcnt) ⟨hfu, Nat.zero_le _, Nat.le_refl _⟩
    rw [← HR.out] at hc
    have HB : Hid _ := hb
    have HQ0 : Hid _ := hq0
    clear hb hb0 hT HST HW hin hq0
    unfold ptr taCells at hc
    go_wp2_with fail
    refine hc.mono ?_
    rintro _ w2 ⟨rfl, nv2, tv2, hfr, hin2⟩
    have hyl := blk_lt hin2.y
    have y3 : w2.cell? ⟨w1.heap.size, 3, none⟩ = some (.int .i64 R.2.steps) := by rw [blk_cell hin2.y]; rfl
    have y4 : w2.cell? ⟨w1.heap.size, 4, none⟩ = some (.int .i64 R.2.cells) := by rw [blk_cell hin2.y]; rfl
    have y5 : w2.cell? ⟨w1.heap.size, 5, none⟩ = some (.int .i64 R.2.e) := by rw [blk_cell hin2.y]; rfl
    have hq : w2.heap[w.heap.size]? = some (.cells #[.string ⟨#[]⟩, .int .i64 0, .int .i64 0, .int .i64 0, .int .i64 0] 23) := by rw [hin2.b0.block _ hql]; exact HQ0.out
    have HB2 : Hid (Below w.heap.size w w2) := HB.out.trans (hin2.b0.mono HB.out.size)
    clear hfr hin2 hc HB HQ0
    have r0 : w2.cell? ⟨w.heap.size, 0, none⟩ = some (.string ⟨#[]⟩) := by rw [blk_cell hq]; rfl
    have r1 : w2.cell? ⟨w.heap.size, 1, none⟩ = some (.int .i64 0) := by rw [blk_cell hq]; rfl
    have r2 : w2.cell? ⟨w.heap.size, 2, none⟩ = some (.int .i64 0) := by rw [blk_cell hq]; rfl
    have r3 : w2.cell? ⟨w.heap.size, 3, none⟩ = some (.int .i64 0) := by rw [blk_cell hq]; rfl
    have r4 : w2.cell? ⟨w.heap.size, 4, none⟩ = some (.int .i64 0) := by rw [blk_cell hq]; rfl
    have g0 := blk_free hq 0
    have g1 := blk_free hq 1
    have g2 := blk_free hq 2
    have g3 := blk_free hq 3
    have g4 := blk_free hq 4
    have hqy : w.heap.size ≠ w1.heap.size := by omega
    have hyq : w1.heap.size ≠ w.heap.size := by omega
    have hql2 := blk_lt hq
    have hN : (((((w2.setCell ⟨w.heap.size, 0, none⟩ (.string (bs R.1.txt))).setCell ⟨w.heap.size, 1, none⟩ (.int .i64 R.2.steps)).setCell ⟨w.heap.size, 2, none⟩ (.int .i64 R.2.cells)).setCell ⟨w.heap.size, 3, none⟩ (.int .i64 R.2.cells)).setCell ⟨w.heap.size, 4, none⟩ (.int .i64 R.2.cells)).heap[w.heap.size]? = some (.cells #[.string (bs R.1.txt), .int .i64 R.2.steps, .int .i64 R.2.cells, .int .i64 R.2.cells, .int .i64 R.2.cells] 23) := blk_set (blk_set (blk_set (blk_set (blk_set hq 0 _) 1 _) 2 _) 3 _) 4 _
    have HN : Hid _ := hN
    have HBN : Hid (Below w.heap.size w (((((w2.setCell ⟨w.heap.size, 0, none⟩ (.string (bs R.1.txt))).setCell ⟨w.heap.size, 1, none⟩ (.int .i64 R.2.steps)).setCell ⟨w.heap.size, 2, none⟩ (.int .i64 R.2.cells)).setCell ⟨w.heap.size, 3, none⟩ (.int .i64 R.2.cells)).setCell ⟨w.heap.size, 4, none⟩ (.int .i64 R.2.cells))) := below_set (below_set (below_set (below_set (below_set HB2.out _ (Nat.le_refl _) _) _ (Nat.le_refl _) _) _ (Nat.le_refl _) _) _ (Nat.le_refl _) _) _ (Nat.le_refl _) _
    clear hN hq HB2
    go_wp2
    go_region
    obtain ⟨W7, hE7⟩ : ∃ W7, W7 = (((((w2.setCell ⟨w.heap.size, 0, none⟩ (.string (bs R.1.txt))).setCell ⟨w.heap.size, 1, none⟩ (.int .i64 R.2.steps)).setCell ⟨w.heap.size, 2, none⟩ (.int .i64 R.2.cells)).setCell ⟨w.heap.size, 3, none⟩ (.int .i64 R.2.cells)).setCell ⟨w.heap.size, 4, none⟩ (.int .i64 R.2.cells)).drew := ⟨_, rfl⟩
    have hN7 : W7.heap[w.heap.size]? = some (.cells #[.string (bs R.1.txt), .int .i64 R.2.steps, .int .i64 R.2.cells, .int .i64 R.2.cells, .int .i64 R.2.cells] 23) := by rw [hE7]; exact HN.out
    have HB7 : Hid (Below w.heap.size w W7) := by rw [hE7]; exact below_d HBN.out
    rw [← hE7]
    obtain ⟨s0, s1, s2, s3, s4⟩ := res_cells hN7
    clear hE7 hN7 HN HBN r0 r1 r2 r3 r4 g0 g1 g2 g3 g4 y3 y4 y5
    go_wp2
    refine bodyPost_ret (v := .tuple #[.agg #[.string (bs R.1.txt), .int .i64 R.2.steps, .int .i64 R.2.cells, .int .i64 R.2.cells, .int .i64 R.2.cells], .int .i64 0]) (by simp [results, Tryz.results13, go_sem, s0, s1, s2, s3, s4]) rfl ⟨rfl, HB7.out⟩
  · have qe : ((R.2.e : Int) != 0) = true := by simp; omega
    have hV : evalV R = noRes := by unfold evalV; rw [if_pos he]
    rw [hV]
    clear hV he
    go_enter Tryz.func13, Tryz.ntmps13
    go_wp2_with fail
    refine Calls.mono (HST.out _) ?_
    rintro _ w1 ⟨b, q, y, rfl, hb0, hT⟩
    have hq0 : w1.heap[w.heap.size]? = some (.cells #[.string ⟨#[]⟩, .int .i64 0, .int .i64 0, .int .i64 0, .int .i64 0] 23) := kept1 hb0
    have hb := below1 hb0
    have hql := blk_lt hq0
    have hin : TaIn w1 (w1.alloc (.cells (taCells (.slice none 0 0) (.slice none 0 0) fuel ⟨0, 0, 0⟩) 70)) w1.heap.size (.slice none 0 0) (.slice none 0 0) [] fuel ⟨0, 0, 0⟩ :=
      ⟨(Below.refl _ _).alloc (Nat.le_refl _) _, Nat.le_refl _, blk_new _ _, World.ownsRow_nil _ _ _ _, World.ownsRow_nil _ _ _ _, by simp [Value.ownBlock], by simp [Value.ownBlock], fun g hg => by simp [Value.ownBlock] at hg⟩
    have hc := HW.out w1 hb w1.heap.size 0 0 b _ [] ⟨0, 0, 0⟩ _ _ _ hT hin (fun _ s U h => by simp [look] at h) (by simpa using hcnt) ⟨hfu, Nat.zero_le _, Nat.le_refl _⟩
    rw [← HR.out] at hc
    have HB : Hid _ := hb
    have HQ0 : Hid _ := hq0
    clear hb hb0 hT HST HW hin hq0
    unfold ptr taCells at hc
    go_wp2_with fail
    refine hc.mono ?_
    rintro _ w2 ⟨rfl, nv2, tv2, hfr, hin2⟩
    have hyl := blk_lt hin2.y
    have y3 : w2.cell? ⟨w1.heap.size, 3, none⟩ = some (.int .i64 R.2.steps) := by rw [blk_cell hin2.y]; rfl
    have y4 : w2.cell? ⟨w1.heap.size, 4, none⟩ = some (.int .i64 R.2.cells) := by rw [blk_cell hin2.y]; rfl
    have y5 : w2.cell? ⟨w1.heap.size, 5, none⟩ = some (.int .i64 R.2.e) := by rw [blk_cell hin2.y]; rfl
    have hq : w2.heap[w.heap.size]? = some (.cells #[.string ⟨#[]⟩, .int .i64 0, .int .i64 0, .int .i64 0, .int .i64 0] 23) := by rw [hin2.b0.block _ hql]; exact HQ0.out
    have HB2 : Hid (Below w.heap.size w w2) := HB.out.trans (hin2.b0.mono HB.out.size)
    clear hfr hin2 hc HB HQ0
    have r0 : w2.cell? ⟨w.heap.size, 0, none⟩ = some (.string ⟨#[]⟩) := by rw [blk_cell hq]; rfl
    have r1 : w2.cell? ⟨w.heap.size, 1, none⟩ = some (.int .i64 0) := by rw [blk_cell hq]; rfl
    have r2 : w2.cell? ⟨w.heap.size, 2, none⟩ = some (.int .i64 0) := by rw [blk_cell hq]; rfl
    have r3 : w2.cell? ⟨w.heap.size, 3, none⟩ = some (.int .i64 0) := by rw [blk_cell hq]; rfl
    have r4 : w2.cell? ⟨w.heap.size, 4, none⟩ = some (.int .i64 0) := by rw [blk_cell hq]; rfl
    have g0 := blk_free hq 0
    have g1 := blk_free hq 1
    have g2 := blk_free hq 2
    have g3 := blk_free hq 3
    have g4 := blk_free hq 4
    have hqy : w.heap.size ≠ w1.heap.size := by omega
    have hyq : w1.heap.size ≠ w.heap.size := by omega
    have hql2 := blk_lt hq
    have hN : (((((w2.setCell ⟨w.heap.size, 0, none⟩ (.string ⟨#[]⟩)).setCell ⟨w.heap.size, 1, none⟩ (.int .i64 0)).setCell ⟨w.heap.size, 2, none⟩ (.int .i64 0)).setCell ⟨w.heap.size, 3, none⟩ (.int .i64 0)).setCell ⟨w.heap.size, 4, none⟩ (.int .i64 0)).heap[w.heap.size]? = some (.cells #[.string ⟨#[]⟩, .int .i64 0, .int .i64 0, .int .i64 0, .int .i64 0] 23) := blk_set (blk_set (blk_set (blk_set (blk_set hq 0 _) 1 _) 2 _) 3 _) 4 _
    have HN : Hid _ := hN
    have HBN : Hid (Below w.heap.size w (((((w2.setCell ⟨w.heap.size, 0, none⟩ (.string ⟨#[]⟩)).setCell ⟨w.heap.size, 1, none⟩ (.int .i64 0)).setCell ⟨w.heap.size, 2, none⟩ (.int .i64 0)).setCell ⟨w.heap.size, 3, none⟩ (.int .i64 0)).setCell ⟨w.heap.size, 4, none⟩ (.int .i64 0))) := below_set (below_set (below_set (below_set (below_set HB2.out _ (Nat.le_refl _) _) _ (Nat.le_refl _) _) _ (Nat.le_refl _) _) _ (Nat.le_refl _) _) _ (Nat.le_refl _) _
    clear hN hq HB2
    go_wp2
    go_region
    obtain ⟨W7, hE7⟩ : ∃ W7, W7 = (((((w2.setCell ⟨w.heap.size, 0, none⟩ (.string ⟨#[]⟩)).setCell ⟨w.heap.size, 1, none⟩ (.int .i64 0)).setCell ⟨w.heap.size, 2, none⟩ (.int .i64 0)).setCell ⟨w.heap.size, 3, none⟩ (.int .i64 0)).setCell ⟨w.heap.size, 4, none⟩ (.int .i64 0)).drew := ⟨_, rfl⟩
    have hN7 : W7.heap[w.heap.size]? = some (.cells #[.string ⟨#[]⟩, .int .i64 0, .int .i64 0, .int .i64 0, .int .i64 0] 23) := by rw [hE7]; exact HN.out
    have HB7 : Hid (Below w.heap.size w W7) := by rw [hE7]; exact below_d HBN.out
    rw [← hE7]
    obtain ⟨s0, s1, s2, s3, s4⟩ := res_cells hN7
    clear hE7 hN7 HN HBN r0 r1 r2 r3 r4 g0 g1 g2 g3 g4 y3 y4 y5
    go_wp2
    refine bodyPost_ret (v := .tuple #[.agg #[.string ⟨#[]⟩, .int .i64 0, .int .i64 0, .int .i64 0, .int .i64 0], .int .i64 R.2.e]) (by simp [results, Tryz.results13, go_sem, s0, s1, s2, s3, s4]) rfl ⟨rfl, HB7.out⟩
end Go.Proofs.YtpicaknklgccoaaGreatDoor

/- the statement Evals. -/
namespace Go.Proofs.YtpicaknklgccoaaGreatDoor
open Go.RowKit

set_option maxRecDepth 100000 in
set_option maxHeartbeats 2000000 in
theorem Evals_of (s : ByteArray) (fuel : Int) (w : World) (S : ByteArray) (a b c d x : Int) (h1 : Calls Tryz.prog 12 #[.string s, .int .i64 fuel] w fun v w' => v = .returned (.tuple #[.agg #[.string S, .int .i64 a, .int .i64 b, .int .i64 c, .int .i64 d], .int .i64 x]) ∧ Below w.heap.size w w')
    (h2 : ∀ w', Below w.heap.size w w' → Calls Tryz.prog 13 #[.string s, .int .i64 fuel] w' fun v w'' => v = .returned (.tuple #[.agg #[.string S, .int .i64 a, .int .i64 b, .int .i64 c, .int .i64 d], .int .i64 x]) ∧ Below w'.heap.size w' w'') :
    Calls Tryz.prog 3 #[.string s, .int .i64 fuel] w fun v w' => v = .returned (.bool true) ∧ Below w.heap.size w w' := by
  have HH : Hid _ := h2
  clear h2
  have hsame : ∀ w, Calls Tryz.prog 15 #[.agg #[.string S, .int .i64 a, .int .i64 b, .int .i64 c, .int .i64 d], .agg #[.string S, .int .i64 a, .int .i64 b, .int .i64 c, .int .i64 d]] w fun v w' => v = .returned (.bool true) ∧ Below w.heap.size w w' := by
    intro w
    have q0 : (S.toList == S.toList) = true := by simp
    have q1 : (a == a) = true := by simp
    have q2 : (b == b) = true := by simp
    have q3 : (c == c) = true := by simp
    have q4 : (d == d) = true := by simp
    go_enter Tryz.func15, Tryz.ntmps15
    go_wp2
    go_ret
    exact ⟨rfl, ((Below.refl _ w).alloc (Nat.le_refl _) _).alloc (by simp) _⟩
  have hnum : ∀ w, Calls Tryz.prog 14 #[.int .i64 x] w fun v w' => v = .returned (.int .i64 x) ∧ w' = w := by
    intro w
    go_enter Tryz.func14, Tryz.ntmps14
    go_wp2
    go_ret
    exact ⟨rfl, rfl⟩
  have e1 : (x == x) = true := by simp
  go_enter Tryz.func3, Tryz.ntmps3
  go_wp2_with fail
  refine h1.mono ?_
  rintro _ w1 ⟨rfl, hb1⟩
  have hb1a := hb1.alloc hb1.size (.cells #[.string S, .int .i64 a, .int .i64 b, .int .i64 c, .int .i64 d] 23)
  have HB1 : Hid _ := hb1a
  have hh := HH.out _ hb1a
  clear hb1 h1 hb1a HH
  go_wp2_with fail
  refine Calls.mono hh ?_
  rintro _ w2 ⟨rfl, hb2⟩
  have hq : w2.heap[w1.heap.size]? = some (.cells #[.string S, .int .i64 a, .int .i64 b, .int .i64 c, .int .i64 d] 23) := by rw [hb2.block _ (by simp)]; exact blk_new _ _
  obtain ⟨s0, s1, s2, s3, s4⟩ := res_cells hq
  have hql := blk_lt hq
  have hb2a := (HB1.out.trans (hb2.mono HB1.out.size)).alloc (HB1.out.trans (hb2.mono HB1.out.size)).size (.cells #[.string S, .int .i64 a, .int .i64 b, .int .i64 c, .int .i64 d] 23)
  have HB2 : Hid _ := hb2a
  clear hb2 HB1 hh hq hb2a
  go_wp2_with fail
  refine (hnum _).mono ?_
  rintro _ _ ⟨rfl, rfl⟩
  go_wp2_with fail
  refine (hsame _).mono ?_
  rintro _ w3 ⟨rfl, hb3⟩
  have HB3 : Hid _ := HB2.out.trans (hb3.mono HB2.out.size)
  clear hb3 HB2
  go_wp2
  go_ret
  exact ⟨rfl, HB3.out⟩

theorem Evals_any (s : ByteArray) (fuel : Int) (w : World) (hm : s.size ≤ maxLen) (htab : Lib.TabIs Tryz.prog w "internal/strconv.uint64pow10" .u64 Lib.pow10Tab) : Calls Tryz.prog 3 #[.string s, .int .i64 fuel] w fun v w' => v = .returned (.bool true) ∧ Below w.heap.size w w' := by
  by_cases hs : 3000 < s.size
  · exact Evals_of s fuel w ⟨#[]⟩ 0 0 0 0 1 (leaseEval_bad s fuel w 1 0 (by omega) (fun w => (readPlain_long s w hs hm).mono fun _ _ ⟨h, hb⟩ => ⟨_, _, _, _, _, _, h, hb⟩)) (fun w _ => refEval_bad s fuel w 1 (by omega) (fun w => (Study_long s w hs hm).mono fun _ _ ⟨h, hb⟩ => ⟨_, _, _, h, hb⟩))
  · cases hf : formOf false s.data.toList with
    | some q => exact Evals_of s fuel w ⟨#[]⟩ 0 0 0 0 2 (leaseEval_bad s fuel w 2 q (by omega) (fun w => (readPlain_form s w (by omega) q hf).mono fun _ _ ⟨h, hb⟩ => ⟨_, _, _, _, _, _, h, hb⟩)) (fun w _ => refEval_bad s fuel w 2 (by omega) (fun w => (Study_form s w (by omega) q hf).mono fun _ _ ⟨h, hb⟩ => ⟨_, _, _, h, hb⟩))
    | none =>
      obtain ⟨e, hp⟩ := form_none hf
      by_cases hc : (chkAns e).1 = 0
      · have hprs : e.prs ≤ 100 := by
          unfold chkAns at hc
          split at hc
          · simp at hc
          · omega
        have hst : ∀ w, Calls Tryz.prog 33 #[.string s, .bool false] w fun v w' => ∃ b q y, v = .returned (.tuple #[ptr b, .pointer q, .int .i64 0, .int .i64 y]) ∧ Below w.heap.size w w' ∧ IsT w' (fun k => k < w'.heap.size) e 0 0 b := by
          intro w
          have h0 : (tyFind (List.range e.prs) e 0 0 [] (st0 e)).2.e = 0 := by
            have h := hc
            unfold chkAns at h
            rw [if_neg (by omega)] at h; exact h
          refine (Study_ok s w (by omega) e hp hf hprs).mono fun _ _ ⟨b, yb, h, hb, hT⟩ => ⟨b, some ⟨yb, 0, none⟩, ((tyFind (List.range e.prs) e 0 0 [] (st0 e)).2.at_ : Int), ?_, hb, hT⟩
          rw [h, h0]; rfl
        by_cases hfu : fuel < 0 ∨ 20000 < fuel
        · exact Evals_of s fuel w ⟨#[]⟩ 0 0 0 0 11 (leaseEval_arg s w (by omega) e hp hc fuel hfu) (fun w _ => refEval_arg s fuel w hfu (fun w => (hst w).mono fun _ _ ⟨b, q, y, h, hb, _⟩ => ⟨_, q, y, h, hb⟩))
        · obtain ⟨n, rfl⟩ : ∃ n : Nat, fuel = n := ⟨fuel.toNat, by omega⟩
          have hn : n ≤ 20000 := by omega
          obtain ⟨T, hwt, hT⟩ := chk_WT hp.wf hc
          have hpl := (hp.plain (tokens_tame _)).1
          have hta := (hp.tame (tokens_tame _)).1
          have hcnt := Study_len hp
          obtain ⟨S, a, b, c, d, hV⟩ := evalV_agg (ev n e [] ⟨0, 0, 0⟩)
          have l1 := leaseEval_tree s w (by omega) htab e hp hc n hn
          rw [hV] at l1
          refine Evals_of s n w S a b c d _ l1 (fun w' hb' => ?_)
          have l2 := refEval_ok s n w' hn e hst (fun w1 hb1 yb => work_any (itoa_ok w1 (Lib.tabBelow_of_tabIs htab w1 (hb'.trans (hb1.mono hb'.size)))) yb n hwt (fun s U h => by simp [look] at h) hta hpl.2) (by omega) _ rfl
          rw [hV] at l2
          exact l2
      · have hx : (chkAns e).1 ≠ 0 := hc
        refine Evals_of s fuel w ⟨#[]⟩ 0 0 0 0 (chkAns e).1 (leaseEval_bad s fuel w (chkAns e).1 (chkAns e).2 hx (fun w => readPlain_tree s w (by omega) e hp)) (fun w _ => refEval_bad s fuel w (chkAns e).1 hx (fun w => ?_))
        by_cases hm : 100 < e.prs
        · have h3 : (chkAns e).1 = 3 := by unfold chkAns; rw [if_pos hm]
          rw [h3]
          exact (Study_many s w (by omega) e hp hf hm).mono fun _ _ ⟨q, h, _, hb⟩ => ⟨_, _, _, h, hb⟩
        · have h3 : (chkAns e).1 = (tyFind (List.range e.prs) e 0 0 [] (st0 e)).2.e := by unfold chkAns; rw [if_neg hm]
          rw [h3]
          exact (Study_ok s w (by omega) e hp hf (by omega)).mono fun _ _ ⟨b, yb, h, hb, _⟩ => ⟨some ⟨b, 0, none⟩, some ⟨yb, 0, none⟩, _, h, hb⟩
end Go.Proofs.YtpicaknklgccoaaGreatDoor
