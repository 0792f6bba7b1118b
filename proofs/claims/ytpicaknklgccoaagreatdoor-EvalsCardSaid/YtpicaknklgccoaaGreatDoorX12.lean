import Derived.Test.YtpicaknklgccoaaGreatDoorX11
/- leaseref's Tale.work: if, names, loops. -/
namespace Go.Proofs.YtpicaknklgccoaaGreatDoor
open Go.RowKit
open Go.Lib (decDigits)

/-- what is there at a form's block -/
structure KAt (w0 : World) (b gk vc : Nat) (k : Kw) (nm : List UInt8) (ks : List Nat) : Prop where
  hb : b < w0.heap.size
  hg : gk < w0.heap.size
  c0 : w0.cell? ⟨b, 0, none⟩ = some (.string (bs k.bytes))
  c2 : w0.cell? ⟨b, 2, none⟩ = some (.string (bs nm))
  c4 : w0.cell? ⟨b, 4, none⟩ = some (.slice (some ⟨gk, 0, none⟩) ks.length vc)
  ck : ∀ (j x : Nat), ks[j]? = some x → w0.cell? ⟨gk, j, none⟩ = some (.pointer (some ⟨x, 0, none⟩))
theorem KAt.on {w0 w : World} {b gk vc : Nat} {k : Kw} {nm : List UInt8} {ks : List Nat} (h : KAt w0 b gk vc k nm ks) (hw : Below w0.heap.size w0 w) : KAt w b gk vc k nm ks :=
  ⟨by have := hw.size; have := h.hb; omega, by have := hw.size; have := h.hg; omega, (hw.cell (p := ⟨b, 0, none⟩) h.hb).trans h.c0, (hw.cell (p := ⟨b, 2, none⟩) h.hb).trans h.c2, (hw.cell (p := ⟨b, 4, none⟩) h.hb).trans h.c4, fun j x hj => (hw.cell (p := ⟨gk, j, none⟩) h.hg).trans (h.ck j x hj)⟩
theorem kat1 {w0 : World} {F : Nat → Prop} {p : Nat} {k : Kw} {nm rg : List UInt8} {x : PT} {id site b : Nat} (hT : IsT w0 F (.node p k nm rg [x]) id site b) :
    ∃ gk vc bx id1 site1, KAt w0 b gk vc k nm [bx] ∧ IsT w0 F x id1 site1 bx := by
  obtain ⟨va, vc, ⟨g0, g2, g4⟩, hb, hk⟩ := node_kid hT
  obtain ⟨gk, bx, id1, site1, rfl, hg, hc1, hT1⟩ := hk 0 x rfl
  refine ⟨gk, vc, bx, id1, site1, ⟨hb, hg, g0, g2, g4, ?_⟩, hT1⟩
  intro j y hj
  match j, hj with
  | 0, hj => simp only [List.getElem?_cons_zero, Option.some.injEq] at hj; subst hj; exact hc1
  | j + 1, hj => simp at hj
theorem kat2 {w0 : World} {F : Nat → Prop} {p : Nat} {k : Kw} {nm rg : List UInt8} {x y : PT} {id site b : Nat} (hT : IsT w0 F (.node p k nm rg [x, y]) id site b) :
    ∃ gk vc bx bb id1 site1 id2 site2, KAt w0 b gk vc k nm [bx, bb] ∧ IsT w0 F x id1 site1 bx ∧ IsT w0 F y id2 site2 bb := by
  obtain ⟨va, vc, ⟨g0, g2, g4⟩, hb, hk⟩ := node_kid hT
  obtain ⟨gk, bx, id1, site1, rfl, hg, hc1, hT1⟩ := hk 0 x rfl
  obtain ⟨gk', bb, id2, site2, hgk', _, hc2, hT2⟩ := hk 1 y rfl
  have egk : gk' = gk := by simp only [Option.some.injEq, Addr.mk.injEq] at hgk'; exact hgk'.1.symm
  subst egk
  refine ⟨gk', vc, bx, bb, id1, site1, id2, site2, ⟨hb, hg, g0, g2, g4, ?_⟩, hT1, hT2⟩
  intro j z hj
  match j, hj with
  | 0, hj => simp only [List.getElem?_cons_zero, Option.some.injEq] at hj; subst hj; exact hc1
  | 1, hj => simp only [List.getElem?_cons_succ, List.getElem?_cons_zero, Option.some.injEq] at hj; subst hj; exact hc2
  | j + 2, hj => simp at hj
theorem kat3 {w0 : World} {F : Nat → Prop} {p : Nat} {k : Kw} {nm rg : List UInt8} {x y z : PT} {id site b : Nat} (hT : IsT w0 F (.node p k nm rg [x, y, z]) id site b) :
    ∃ gk vc bx bb bc id1 site1 id2 site2 id3 site3, KAt w0 b gk vc k nm [bx, bb, bc] ∧ IsT w0 F x id1 site1 bx ∧ IsT w0 F y id2 site2 bb ∧ IsT w0 F z id3 site3 bc := by
  obtain ⟨va, vc, ⟨g0, g2, g4⟩, hb, hk⟩ := node_kid hT
  obtain ⟨gk, bx, id1, site1, rfl, hg, hc1, hT1⟩ := hk 0 x rfl
  obtain ⟨gk', bb, id2, site2, hgk', _, hc2, hT2⟩ := hk 1 y rfl
  obtain ⟨gk'', bc, id3, site3, hgk'', _, hc3, hT3⟩ := hk 2 z rfl
  have egk : gk' = gk := by simp only [Option.some.injEq, Addr.mk.injEq] at hgk'; exact hgk'.1.symm
  have egk2 : gk'' = gk := by simp only [Option.some.injEq, Addr.mk.injEq] at hgk''; exact hgk''.1.symm
  subst egk
  subst egk2
  refine ⟨gk'', vc, bx, bb, bc, id1, site1, id2, site2, id3, site3, ⟨hb, hg, g0, g2, g4, ?_⟩, hT1, hT2, hT3⟩
  intro j z hj
  match j, hj with
  | 0, hj => simp only [List.getElem?_cons_zero, Option.some.injEq] at hj; subst hj; exact hc1
  | 1, hj => simp only [List.getElem?_cons_succ, List.getElem?_cons_zero, Option.some.injEq] at hj; subst hj; exact hc2
  | 2, hj => simp only [List.getElem?_cons_succ, List.getElem?_cons_zero, Option.some.injEq] at hj; subst hj; exact hc3
  | j + 3, hj => simp at hj

theorem res_num {st : ESt} {r : Vl × ESt} (h : Res .n st r) : ∃ k, r.1 = .n k ∧ k ≤ 9999 := by
  by_cases e : r.2.e = 0
  · exact has_num (h.1 e).2
  · exact ⟨0, h.2 e, by omega⟩
theorem SOk.step {fuel : Nat} {st : ESt} (hs : SOk fuel st) (hq : st.steps ≠ fuel) : SOk fuel { st with steps := st.steps + 1 } :=
  ⟨hs.f, by have := hs.s; show st.steps + 1 ≤ fuel; omega, by have := hs.c; show st.cells ≤ st.steps + 1; omega⟩

set_option maxRecDepth 100000 in
set_option maxHeartbeats 2000000 in
theorem work_if {w0 : World} (yb fuel : Nat) (p : Nat) (nm rg : List UInt8) (x y z : PT) (G : TEnv) (hwx : WT G x .n) (htx : x.tame) (hnx : NoNew x) (ihx : TWork w0 yb fuel x G) (ihy : TWork w0 yb fuel y G) (ihz : TWork w0 yb fuel z G) : TGo w0 yb fuel (.node p .if_ nm rg [x, y, z]) G := by
  intro id site b F env st nv tv w hT hin henv hlen hs he hq
  obtain ⟨gk, vc, bx, bb, bc, id1, site1, id2, site2, id3, site3, hka, hT1, hT2, hT3⟩ := kat3 hT
  have hne : b ≠ yb := by have := hin.hyb; have := hka.hb; omega
  have hgy : gk ≠ yb := by have := hin.hyb; have := hka.hg; omega
  simp only [PT.cnt, cntL] at hlen
  have hev : ev fuel (.node p .if_ nm rg [x, y, z]) env st = if (ev fuel x env { st with steps := st.steps + 1 }).1.num ≠ 0 then ev fuel y env (ev fuel x env { st with steps := st.steps + 1 }).2 else ev fuel z env (ev fuel x env { st with steps := st.steps + 1 }).2 := by
    conv => lhs; unfold ev
    rw [begun_go he hq]; simp only [reduceCtorEq, if_false, if_true, evIf]
  rw [hev]
  have hs' := hs.step hq
  have hr1 := ev_res fuel hwx env { st with steps := st.steps + 1 } htx hnx (fun _ => henv)
  have h1 := fun m => ihx id1 site1 bx F env { st with steps := st.steps + 1 } nv tv _ hT1 (hin.step m) (fun _ => henv) (by omega) hs'
  have hs2 := hs'.on x env
  generalize ev fuel x env { st with steps := st.steps + 1 } = r1 at *
  obtain ⟨k, hk, hk9⟩ := res_num hr1
  obtain ⟨R, hR⟩ : ∃ R, R = if r1.1.num ≠ 0 then ev fuel y env r1.2 else ev fuel z env r1.2 := ⟨_, rfl⟩
  rw [← hR]
  have HRz : k = 0 → R = ev fuel z env r1.2 := fun h => by rw [hR, hk]; exact if_neg (fun g => g h)
  have HRy : k ≠ 0 → R = ev fuel y env r1.2 := fun h => by rw [hR, hk]; exact if_pos h
  rw [hk] at h1
  have hnu := fun w => number_dec k w hk9
  have h2 := fun nv2 tv2 w2 (hin2 : TaIn w0 w2 yb nv2 tv2 env fuel r1.2) => ihy id2 site2 bb F env r1.2 nv2 tv2 w2 hT2 hin2 (fun _ => henv) (by omega) hs2
  have h3 := fun nv2 tv2 w2 (hin2 : TaIn w0 w2 yb nv2 tv2 env fuel r1.2) => ihz id3 site3 bc F env r1.2 nv2 tv2 w2 hT3 hin2 (fun _ => henv) (by omega) hs2
  simp only [Vl.txt] at h1
  have hkw := hka.on hin.b0
  have x0 := hkw.c0
  have x4 := hkw.c4
  have xk0 := hkw.ck 0 bx rfl
  have xl1 := hkw.hb
  have xl2 := hkw.hg
  have q0 : ((bs Kw.if_.bytes).toList == [110, 117, 109, 98, 101, 114]) = false := by rw [bs_beq0]; decide
  have q1 : ((bs Kw.if_.bytes).toList == [110, 97, 109, 101]) = false := by rw [bs_beq0]; decide
  have q2 : ((bs Kw.if_.bytes).toList == [108, 101, 116]) = false := by rw [bs_beq0]; decide
  have q3 : ((bs Kw.if_.bytes).toList == [105, 102]) = true := by rw [bs_beq0]; decide
  have y2 : w.cell? ⟨yb, 2, none⟩ = some (.int .i64 fuel) := by rw [blk_cell hin.y]; rfl
  have y3 : w.cell? ⟨yb, 3, none⟩ = some (.int .i64 st.steps) := by rw [blk_cell hin.y]; rfl
  have y5 : w.cell? ⟨yb, 5, none⟩ = some (.int .i64 0) := hin.e0 he
  have f3 : w.frozen? ⟨yb, 3, none⟩ = false := blk_free hin.y 3
  have hyl := blk_lt hin.y
  have q9 : ((st.steps : Int) == (fuel : Int)) = false := by rw [beq_eq_false_iff_ne]; omega
  have hss := hs.s
  have hsf := hs.f
  have HK : Hid _ := hka
  have H1 : Hid _ := h1
  have H2 : Hid _ := h2
  have H3 : Hid _ := h3
  clear hka hkw hT hin henv hs he hev hq hT1 hT2 hT3 ihx ihy ihz hs' hs2 hr1 h1 h2 h3 hk hR
  unfold ptr at H1 H2 H3
  by_cases hk0 : k = 0
  · have qk : ((k : Int) != 0) = false := by subst hk0; rfl
    rw [HRz hk0]
    clear hk0 HRz HRy
    show Calls _ _ #[Value.pointer (some ⟨yb, 0, none⟩), Value.pointer (some ⟨b, 0, none⟩)] w _
    go_enter Tryz.func34, Tryz.ntmps34
    go_wp2_with fail
    go_quiet (fail)
    go_wp2_with fail
    refine Calls.mono (H1.out _) ?_
    rintro _ w2 ⟨rfl, nv2, tv2, hfr2, hin2⟩
    have hkw := HK.out.on hin2.b0
    have z4 := hkw.c4
    have zk1 := hkw.ck 1 bb rfl
    have zk2 := hkw.ck 2 bc rfl
    have zl1 := hkw.hb
    have zl2 := hkw.hg
    have hc := H3.out nv2 tv2 w2 hin2
    have HF2 : Hid _ := hfr2
    clear hfr2 hin2 hkw HK H1 H2 H3
    go_wp2_with fail
    refine (hnu _).mono ?_
    rintro _ w2 ⟨rfl, rfl⟩
    go_wp2_with fail
    refine Calls.mono hc ?_
    rintro _ w3 ⟨rfl, nv3, tv3, hfr3, hin3⟩
    have HF3 : Hid _ := hfr3
    have HI3 : Hid _ := hin3
    clear hfr3 hin3 hc
    go_wp2
    go_ret
    exact ⟨rfl, nv3, tv3, ((Fr.setAt w yb nv tv _ 3 _).trans HF2.out).trans HF3.out, HI3.out⟩
  · have qk : ((k : Int) != 0) = true := by simp; omega
    rw [HRy hk0]
    clear hk0 HRz HRy
    show Calls _ _ #[Value.pointer (some ⟨yb, 0, none⟩), Value.pointer (some ⟨b, 0, none⟩)] w _
    go_enter Tryz.func34, Tryz.ntmps34
    go_wp2_with fail
    go_quiet (fail)
    go_wp2_with fail
    refine Calls.mono (H1.out _) ?_
    rintro _ w2 ⟨rfl, nv2, tv2, hfr2, hin2⟩
    have hkw := HK.out.on hin2.b0
    have z4 := hkw.c4
    have zk1 := hkw.ck 1 bb rfl
    have zk2 := hkw.ck 2 bc rfl
    have zl1 := hkw.hb
    have zl2 := hkw.hg
    have hc := H2.out nv2 tv2 w2 hin2
    have HF2 : Hid _ := hfr2
    clear hfr2 hin2 hkw HK H1 H2 H3
    go_wp2_with fail
    refine (hnu _).mono ?_
    rintro _ w2 ⟨rfl, rfl⟩
    go_wp2_with fail
    refine Calls.mono hc ?_
    rintro _ w3 ⟨rfl, nv3, tv3, hfr3, hin3⟩
    have HF3 : Hid _ := hfr3
    have HI3 : Hid _ := hin3
    clear hfr3 hin3 hc
    go_wp2
    go_ret
    exact ⟨rfl, nv3, tv3, ((Fr.setAt w yb nv tv _ 3 _).trans HF2.out).trans HF3.out, HI3.out⟩

set_option maxRecDepth 100000 in
set_option maxHeartbeats 2000000 in
theorem work_name {w0 : World} (yb fuel : Nat) (p : Nat) (s : List UInt8) (G : TEnv) : TGo w0 yb fuel (.name p s) G := by
  intro id site b F env st nv tv w hT hin henv hlen hs he hq
  simp only [PT.cnt] at hlen
  simp only [IsT] at hT
  have hb := blk_lt hT.2
  have hne : b ≠ yb := by have := hin.hyb; omega
  have hbx : w.heap[b]? = some _ := (hin.b0.block b hb).trans hT.2
  have x0 : w.cell? ⟨b, 0, none⟩ = some (.string (bs nameB)) := by rw [blk_cell hbx]; rfl
  have x2 : w.cell? ⟨b, 2, none⟩ = some (.string (bs s)) := by rw [blk_cell hbx]; rfl
  have q0 : ((bs nameB).toList == [110, 117, 109, 98, 101, 114]) = false := by rw [bs_beq0]; decide
  have q1 : ((bs nameB).toList == [110, 97, 109, 101]) = true := by rw [bs_beq0]; decide
  have y2 : w.cell? ⟨yb, 2, none⟩ = some (.int .i64 fuel) := by rw [blk_cell hin.y]; rfl
  have y3 : w.cell? ⟨yb, 3, none⟩ = some (.int .i64 st.steps) := by rw [blk_cell hin.y]; rfl
  have y5 : w.cell? ⟨yb, 5, none⟩ = some (.int .i64 0) := hin.e0 he
  have f3 : w.frozen? ⟨yb, 3, none⟩ = false := blk_free hin.y 3
  have hyl := blk_lt hin.y
  have hbw : b < w.heap.size := blk_lt hbx
  have q9 : ((st.steps : Int) == (fuel : Int)) = false := by rw [beq_eq_false_iff_ne]; omega
  have hev : ev fuel (.name p s) env st = (lookV env s, { st with steps := st.steps + 1 }) := by unfold ev; rw [begun_go he hq]
  rw [hev]
  have hss := hs.s
  have hsf := hs.f
  have HIN0 : Hid _ := fun m => hin.step m
  have HT : Hid _ := hT.2
  clear hT hin henv hs he hev hq hbx
  show Calls _ _ #[Value.pointer (some ⟨yb, 0, none⟩), Value.pointer (some ⟨b, 0, none⟩)] w _
  go_enter Tryz.func34, Tryz.ntmps34
  go_wp2
  go_quiet (fail)
  go_wp2
  obtain ⟨W, hW⟩ : ∃ W, W = (w.drewN nq).setCell ⟨yb, 3, none⟩ (.int .i64 ((st.steps : Int) + 1)) := ⟨_, rfl⟩
  have HW : Hid _ := hW
  have hI := HIN0.out nq
  rw [← hW] at hI
  have HIN : Hid _ := hI
  have hG := hI.toG
  obtain ⟨na, nc, hnv, hna⟩ := hG.shapeN
  obtain ⟨ta, tc, htv, hta⟩ := hG.shapeT
  rw [List.length_map] at hnv htv hna hta
  have Y0 : W.cell? ⟨yb, 0, none⟩ = some (.slice na env.length nc) := by rw [blk_cell hG.y, ← hnv]; rfl
  have Y1 : W.cell? ⟨yb, 1, none⟩ = some (.slice ta env.length tc) := by rw [blk_cell hG.y, ← htv]; rfl
  have hbW : W.heap[b]? = some _ := (hG.b0.block b hb).trans HT.out
  have X2 : W.cell? ⟨b, 2, none⟩ = some (.string (bs s)) := by rw [blk_cell hbW]; rfl
  have hylW := blk_lt hG.y
  have hblW := blk_lt hbW
  have HNV : Hid _ := hnv
  have HTV : Hid _ := htv
  have HNA : Hid _ := hna
  have HTA : Hid _ := hta
  clear hG hnv htv hna hta hW hbW hI
  go_loopw [5, 6] (fun v i wr => ∃ (j m : Nat), j ≤ env.length ∧ i = .int .i64 j ∧ wr = W.drewN m ∧ v = .string (bs (lookV (env.take j) s).txt)) (fun _ i _ => env.length - (intOf i).toNat)
  case atStart => exact ⟨0, 0, by omega, rfl, by rw [HW.out]; rfl, by rw [show lookV (env.take 0) s = .n 0 from rfl, txt_zero]⟩
  case round =>
    obtain ⟨j, m, hj, rfl, rfl, rfl⟩ := hrel
    clear y2 y3 y5 f3 x0 x2
    by_cases hlt : j < env.length
    · obtain ⟨gn, hgn⟩ := HNA.out (by omega)
      obtain ⟨gt, hgt⟩ := HTA.out (by omega)
      have hcn : W.cell? ⟨gn, j, none⟩ = some (.string (bs env[j].1)) := by
        have h := HIN.out.n
        rw [HNV.out, hgn] at h
        rw [h.cellAt j (by omega), List.getElem?_map, List.getElem?_eq_getElem hlt]; rfl
      have hct : W.cell? ⟨gt, j, none⟩ = some (.string (bs env[j].2.txt)) := by
        have h := HIN.out.t
        rw [HTV.out, hgt] at h
        rw [h.cellAt j (by omega), List.getElem?_map, List.getElem?_eq_getElem hlt]; rfl
      have hgnw : gn < W.heap.size := World.block_lt_of_cell? _ _ hcn
      have hgtw : gt < W.heap.size := World.block_lt_of_cell? _ _ hct
      rw [hgn] at Y0
      rw [hgt] at Y1
      have hlk := lookV_take env j hlt s
      by_cases hs : env[j].1 = s
      · rw [if_pos hs] at hlk
        have qs : ((bs env[j].1).toList == (bs s).toList) = true := by rw [bs_beq0, Lib.toList_data]; have : (env[j].1 == s) = true := (by simpa using hs); exact this
        have HL : Hid _ := hlk
        clear hlk hs hgn hgt
        go_wp2
        go_quiet (fail)
        go_wp2
        go_roundw
        case rel => exact ⟨j + 1, _, by omega, by go_num, rfl, by rw [HL.out]⟩
        case measure => simp [intOf]; omega
      · have hs' : (env[j].1 == s) = false := by simpa using hs
        rw [if_neg hs] at hlk
        have qs : ((bs env[j].1).toList == (bs s).toList) = false := by rw [bs_beq0, Lib.toList_data]; exact hs'
        have HL : Hid _ := hlk
        clear hlk hs hs' hgn hgt
        go_wp2
        go_quiet (fail)
        go_wp2
        go_roundw
        case rel => exact ⟨j + 1, _, by omega, by go_num, rfl, by rw [HL.out]⟩
        case measure => simp [intOf]; omega
    · have hje : env.take j = env := List.take_of_length_le (by omega)
      rw [hje]
      go_wp2
      go_ret
      refine ⟨rfl, nv, tv, ?_, HIN.out.grow ⟨rfl, rfl, rfl, Nat.le_refl _, fun _ _ => rfl⟩⟩
      have h1 := Fr.setAt w yb nv tv nq 3 (.int .i64 ((st.steps : Int) + 1))
      rw [← HW.out] at h1
      exact h1.trans (Fr.below (below_drew W m) _ _ _ _)
end Go.Proofs.YtpicaknklgccoaaGreatDoor

/- leaseref's Tale.work: loops; what works all its parts out. -/
namespace Go.Proofs.YtpicaknklgccoaaGreatDoor
open Go.RowKit
open Go.Lib (decDigits)

theorem turns_zero (f : Vl → ESt → Vl × ESt) (v : Vl) (st : ESt) : turns f 0 v st = (v, st) := rfl
theorem turns_err (f : Vl → ESt → Vl × ESt) (k : Nat) (v : Vl) (st : ESt) (h : st.e ≠ 0) : turns f k v st = (v, st) := by
  cases k with
  | zero => rfl
  | succ k => simp only [turns]; rw [if_pos h]
theorem turns_succ (f : Vl → ESt → Vl × ESt) (k : Nat) (v : Vl) (st : ESt) (h : st.e = 0) : turns f (k + 1) v st = turns f k (f v st).1 (f v st).2 := by
  simp only [turns]; rw [if_neg (by simpa using h)]

set_option maxRecDepth 100000 in
set_option maxHeartbeats 4000000 in
theorem work_loop {w0 : World} (yb fuel : Nat) (p : Nat) (nm rg : List UInt8) (x y z : PT) (G : TEnv) (T : Ty) (hwx : WT G x .n) (hwy : WT G y T) (hwz : WT (G ++ [(nm, T)]) z T) (htx : x.tame) (hty : y.tame) (htz : z.tame) (hnx : NoNew x) (hny : NoNew y) (hnz : NoNew z)
    (ihx : TWork w0 yb fuel x G) (ihy : TWork w0 yb fuel y G) (ihz : TWork w0 yb fuel z (G ++ [(nm, T)])) : TGo w0 yb fuel (.node p .loop nm rg [x, y, z]) G := by
  intro id site b F env st nv tv w hT hin henv hlen hs he hq
  obtain ⟨gk, vc, bx, bb, bc, id1, site1, id2, site2, id3, site3, hka, hT1, hT2, hT3⟩ := kat3 hT
  have hne : b ≠ yb := by have := hin.hyb; have := hka.hb; omega
  have hgy : gk ≠ yb := by have := hin.hyb; have := hka.hg; omega
  simp only [PT.cnt, cntL] at hlen
  obtain ⟨f, hfd⟩ : ∃ f : Vl → ESt → Vl × ESt, f = fun v st => ev fuel z (env ++ [(nm, v)]) st := ⟨_, rfl⟩
  have hev : ev fuel (.node p .loop nm rg [x, y, z]) env st = turns f (ev fuel x env { st with steps := st.steps + 1 }).1.num (ev fuel y env (ev fuel x env { st with steps := st.steps + 1 }).2).1 (ev fuel y env (ev fuel x env { st with steps := st.steps + 1 }).2).2 := by
    rw [hfd]
    conv => lhs; unfold ev
    rw [begun_go he hq]; simp only [reduceCtorEq, if_false, if_true, evLoop]
  rw [hev]
  have hs' := hs.step hq
  have hr1 := ev_res fuel hwx env { st with steps := st.steps + 1 } htx hnx (fun _ => henv)
  have h1 := fun m => ihx id1 site1 bx F env { st with steps := st.steps + 1 } nv tv _ hT1 (hin.step m) (fun _ => henv) (by omega) hs'
  have hs2 := hs'.on x env
  generalize ev fuel x env { st with steps := st.steps + 1 } = r1 at *
  have hr2 := ev_res fuel hwy env r1.2 hty hny (fun _ => henv)
  have h2 := fun nv2 tv2 w2 (hin2 : TaIn w0 w2 yb nv2 tv2 env fuel r1.2) => ihy id2 site2 bb F env r1.2 nv2 tv2 w2 hT2 hin2 (fun _ => henv) (by omega) hs2
  have hs3 := hs2.on y env
  generalize ev fuel y env r1.2 = r2 at *
  obtain ⟨k, hk, hk9⟩ := res_num hr1
  rw [hk] at h1 ⊢
  have hnu := fun w => number_dec k w hk9
  have h3 : ∀ (v : Vl) (st3 : ESt) (nv2 tv2 : Value) (w2 : World), (st3.e = 0 → v.has T) → SOk fuel st3 → TaIn w0 w2 yb nv2 tv2 env fuel st3 →
      Calls Tryz.prog 62 #[ptr yb, .string (bs nm), .string (bs v.txt), ptr bc] w2 fun e w' => e = .returned (.string (bs (f v st3).1.txt)) ∧
      ∃ nv' tv', Fr w2 w' yb nv2 tv2 (.slice none 0 0) nv' tv' ∧ TaIn w0 w' yb nv' tv' env fuel (f v st3).2 := by
    intro v st3 nv2 tv2 w2 hv hs4 hin2
    rw [hfd]
    exact tunder_of (t := z) bc env st3 nv2 tv2 w2 nm v (fun nv' tv' w' hin' => ihz id3 site3 bc F (env ++ [(nm, v)]) st3 nv' tv' w' hT3 hin' (fun e => henv.snoc (hv e)) (by simp; omega) hs4) hin2 (by omega)
  have h4 : ∀ (v : Vl) (st3 : ESt), (st3.e = 0 → v.has T) → SOk fuel st3 → ((f v st3).2.e = 0 → (f v st3).1.has T) ∧ SOk fuel (f v st3).2 := by
    intro v st3 hv hs4
    rw [hfd]
    exact ⟨fun e => ((ev_res fuel hwz (env ++ [(nm, v)]) st3 htz hnz (fun e => henv.snoc (hv e))).1 e).2, hs4.on z _⟩
  simp only [Vl.txt] at h1
  simp only [Vl.num]
  have hkw := hka.on hin.b0
  have x0 := hkw.c0
  have x4 := hkw.c4
  have xk0 := hkw.ck 0 bx rfl
  have xl1 := hkw.hb
  have xl2 := hkw.hg
  have q0 : ((bs Kw.loop.bytes).toList == [110, 117, 109, 98, 101, 114]) = false := by rw [bs_beq0]; decide
  have q1 : ((bs Kw.loop.bytes).toList == [110, 97, 109, 101]) = false := by rw [bs_beq0]; decide
  have q2 : ((bs Kw.loop.bytes).toList == [108, 101, 116]) = false := by rw [bs_beq0]; decide
  have q3 : ((bs Kw.loop.bytes).toList == [105, 102]) = false := by rw [bs_beq0]; decide
  have q4 : ((bs Kw.loop.bytes).toList == [108, 111, 111, 112]) = true := by rw [bs_beq0]; decide
  have y2 : w.cell? ⟨yb, 2, none⟩ = some (.int .i64 fuel) := by rw [blk_cell hin.y]; rfl
  have y3 : w.cell? ⟨yb, 3, none⟩ = some (.int .i64 st.steps) := by rw [blk_cell hin.y]; rfl
  have y5 : w.cell? ⟨yb, 5, none⟩ = some (.int .i64 0) := hin.e0 he
  have f3 : w.frozen? ⟨yb, 3, none⟩ = false := blk_free hin.y 3
  have hyl := blk_lt hin.y
  have q9 : ((st.steps : Int) == (fuel : Int)) = false := by rw [beq_eq_false_iff_ne]; omega
  have hss := hs.s
  have hsf := hs.f
  have HR2 : Hid (r2.2.e = 0 → r2.1.has T) := fun e => (hr2.1 e).2
  have HS3 : Hid _ := hs3
  have HK : Hid _ := hka
  unfold ptr at h1 h2 h3
  have H1 : Hid _ := h1
  have H2 : Hid _ := h2
  have H3 : Hid _ := h3
  have H4 : Hid _ := h4
  clear hka hkw hT hin henv hs he hev hq hT1 hT2 hT3 ihx ihy ihz hs' hs2 hs3 hr1 hr2 h1 h2 h3 h4 hk hfd
  show Calls _ _ #[Value.pointer (some ⟨yb, 0, none⟩), Value.pointer (some ⟨b, 0, none⟩)] w _
  go_enter Tryz.func34, Tryz.ntmps34
  go_wp2_with fail
  go_quiet (fail)
  go_wp2_with fail
  refine Calls.mono (H1.out _) ?_
  rintro _ w2 ⟨rfl, nv2, tv2, hfr2, hin2⟩
  have hkw := HK.out.on hin2.b0
  have z4 := hkw.c4
  have zk1 := hkw.ck 1 bb rfl
  have zl1 := hkw.hb
  have zl2 := hkw.hg
  have hc2 := H2.out nv2 tv2 w2 hin2
  have HF2 : Hid _ := hfr2
  clear hfr2 hin2 hkw H1 H2
  go_wp2_with fail
  refine hc2.mono ?_
  rintro _ w3 ⟨rfl, nv3, tv3, hfr3, hin3⟩
  have HF3 : Hid _ := ((Fr.setAt w yb nv tv _ 3 _).trans HF2.out).trans hfr3
  have HI3 : Hid _ := hin3
  clear hfr3 hin3 hc2 HF2
  go_wp2_with fail
  refine (hnu _).mono ?_
  rintro _ w3 ⟨rfl, rfl⟩
  go_wp2_with fail
  go_loopw [10, 11] (fun vv i wr => ∃ (j : Nat) (v : Vl) (st4 : ESt) (nv4 tv4 : Value), j ≤ k ∧ i = .int .i64 j ∧ vv = .string (bs v.txt) ∧ turns f k r2.1 r2.2 = turns f j v st4 ∧ (st4.e = 0 → v.has T) ∧ SOk fuel st4 ∧ Fr w wr yb nv tv (.slice none 0 0) nv4 tv4 ∧ TaIn w0 wr yb nv4 tv4 env fuel st4) (fun _ i _ => (intOf i).toNat)
  case atStart => exact ⟨k, r2.1, r2.2, nv3, tv3, Nat.le_refl _, rfl, rfl, rfl, HR2.out, HS3.out, HF3.out, HI3.out⟩
  case round =>
    obtain ⟨j, v, st4, nv4, tv4, hj, rfl, rfl, htu, hv, hs4, hfr4, hin4⟩ := hrel
    have e5 : wr.cell? ⟨yb, 5, none⟩ = some (.int .i64 st4.e) := by rw [blk_cell hin4.y]; rfl
    have hylr := blk_lt hin4.y
    have hkw := HK.out.on hin4.b0
    have u2 := hkw.c2
    have u4 := hkw.c4
    have uk2 := hkw.ck 2 bc rfl
    have ul1 := hkw.hb
    have ul2 := hkw.hg
    have HTU : Hid _ := htu
    have HF4 : Hid _ := hfr4
    have HI4 : Hid _ := hin4
    by_cases hj0 : j = 0
    · subst hj0
      have HE : Hid _ := turns_zero f v st4
      clear htu hfr4 hin4 hkw hv hs4 y2 y3 y5 f3
      go_wp2
      go_ret
      rw [HTU.out, HE.out]
      exact ⟨rfl, nv4, tv4, HF4.out, HI4.out⟩
    · by_cases he4 : st4.e = 0
      · have qe : ((st4.e : Int) == 0) = true := by rw [he4]; rfl
        obtain ⟨i, rfl⟩ : ∃ i, j = i + 1 := ⟨j - 1, by omega⟩
        have h4 := H4.out v st4 hv hs4
        have HE : Hid _ := turns_succ f i v st4 he4
        have H5 : Hid _ := h4
        have hun : ∀ W, Below wr.heap.size wr W → Calls Tryz.prog 62 #[.pointer (some ⟨yb, 0, none⟩), .string (bs nm), .string (bs v.txt), .pointer (some ⟨bc, 0, none⟩)] W fun e w' => e = .returned (.string (bs (f v st4).1.txt)) ∧
            ∃ nv' tv', Fr w w' yb nv tv (.slice none 0 0) nv' tv' ∧ TaIn w0 w' yb nv' tv' env fuel (f v st4).2 := by
          intro W hW
          refine (H3.out v st4 nv4 tv4 W hv hs4 (hin4.grow hW)).mono ?_
          rintro e w' ⟨rfl, nv', tv', hfr', hin'⟩
          exact ⟨rfl, nv', tv', hfr4.trans ((Fr.below hW _ _ _ _).trans hfr'), hin'⟩
        clear htu hfr4 hin4 hkw hv hs4 y2 y3 y5 f3 h4 he4 HI4 HF4
        go_wp2
        go_region_with (go_at_call 62; refine (hun _ ?_).mono ?_; exact ⟨rfl, rfl, rfl, Nat.le_refl _, fun _ _ => rfl⟩; rintro e w5 ⟨rfl, hw5⟩)
        all_goals
          obtain ⟨nv5, tv5, hfr5, hin5⟩ := hw5
          have HF5 : Hid _ := hfr5
          have HI5 : Hid _ := hin5
          clear hfr5 hin5
          go_wp2
          go_roundw
          case rel => exact ⟨i, (f v st4).1, (f v st4).2, nv5, tv5, by omega, by go_num, rfl, by rw [HTU.out, HE.out], H5.out.1, H5.out.2, HF5.out, HI5.out⟩
          case measure => simp [intOf]
      · have qe : ((st4.e : Int) == 0) = false := by rw [beq_eq_false_iff_ne]; omega
        have HE : Hid _ := turns_err f j v st4 he4
        have hjp : 0 < j := by omega
        clear htu hfr4 hin4 hkw hv hs4 y2 y3 y5 f3 he4
        go_wp2
        go_ret
        rw [HTU.out, HE.out]
        exact ⟨rfl, nv4, tv4, HF4.out, HI4.out⟩
end Go.Proofs.YtpicaknklgccoaaGreatDoor

/- leaseref's Tale.parts. -/
namespace Go.Proofs.YtpicaknklgccoaaGreatDoor
open Go.RowKit
open Go.Lib (decDigits)

def PartsOk (w0 : World) (yb fuel p : Nat) (k : Kw) (nm rg : List UInt8) (kids : List PT) (G : TEnv) : Prop :=
  ∀ (id site b : Nat) (F : Nat → Prop) (env : VEnv) (st : ESt) (nv tv : Value) (w : World), IsT w0 F (.node p k nm rg kids) id site b → TaIn w0 w yb nv tv env fuel st → EnvHas env G → st.e = 0 → env.length + cntL kids + 1 ≤ 9000 → SOk fuel st →
    Calls Tryz.prog 64 #[ptr yb, ptr b] w fun e w' => e = .returned (.string (bs (partsV fuel k kids env st).1.txt)) ∧
      ∃ nv' tv', Fr w w' yb nv tv (.slice none 0 0) nv' tv' ∧ TaIn w0 w' yb nv' tv' env fuel (partsV fuel k kids env st).2
theorem tmod_add (a b : Nat) : Int.tmod ((a : Int) + (b : Int)) 10000 = (((a + b) % 10000 : Nat) : Int) := by
  rw [← Int.natCast_add]; exact (Int.ofNat_tmod (a + b) 10000).symm
theorem tmod_sub (a b : Nat) (h : b ≤ 9999) : ((a : Int) + 10000 - (b : Int)) % 10000 = (((a + 10000 - b) % 10000 : Nat) : Int) := by omega
theorem txt_one : bs (Vl.n 1).txt = ⟨#[49]⟩ := by
  simp only [Vl.txt]
  rw [decDigits, dif_pos (by omega)]; rfl

set_option maxRecDepth 100000 in
set_option maxHeartbeats 1000000 in
theorem work_parts {w0 : World} (yb fuel p : Nat) (k : Kw) (nm rg : List UInt8) (kids : List PT) (G : TEnv) (h1 : k ≠ .let_) (h2 : k ≠ .if_) (h3 : k ≠ .loop) (hp : PartsOk w0 yb fuel p k nm rg kids G) : TGo w0 yb fuel (.node p k nm rg kids) G := by
  intro id site b F env st nv tv w hT hin henv hlen hs he hq
  obtain ⟨va, vc, ⟨g0, g2, g4⟩, hb, _⟩ := node_kid hT
  have hne : b ≠ yb := by have := hin.hyb; omega
  simp only [PT.cnt] at hlen
  have hev : ev fuel (.node p k nm rg kids) env st = partsV fuel k kids env { st with steps := st.steps + 1 } := by
    rw [ev_parts fuel p k nm rg kids env st h1 h2 h3, begun_go he hq]
  rw [hev]
  have hc := fun m => hp id site b F env { st with steps := st.steps + 1 } nv tv _ hT (hin.step m) henv he (by omega) (hs.step hq)
  have x0 : w.cell? ⟨b, 0, none⟩ = some (.string (bs k.bytes)) := (hin.b0.cell (p := ⟨b, 0, none⟩) hb).trans g0
  have q0 : ((bs k.bytes).toList == [110, 117, 109, 98, 101, 114]) = false := by rw [bs_beq0]; cases k <;> decide
  have q1 : ((bs k.bytes).toList == [110, 97, 109, 101]) = false := by rw [bs_beq0]; cases k <;> decide
  have q2 : ((bs k.bytes).toList == [108, 101, 116]) = false := by rw [bs_beq0]; cases k <;> first | decide | exact absurd rfl h1
  have q3 : ((bs k.bytes).toList == [105, 102]) = false := by rw [bs_beq0]; cases k <;> first | decide | exact absurd rfl h2
  have q4 : ((bs k.bytes).toList == [108, 111, 111, 112]) = false := by rw [bs_beq0]; cases k <;> first | decide | exact absurd rfl h3
  have y2 : w.cell? ⟨yb, 2, none⟩ = some (.int .i64 fuel) := by rw [blk_cell hin.y]; rfl
  have y3 : w.cell? ⟨yb, 3, none⟩ = some (.int .i64 st.steps) := by rw [blk_cell hin.y]; rfl
  have y5 : w.cell? ⟨yb, 5, none⟩ = some (.int .i64 0) := hin.e0 he
  have f3 : w.frozen? ⟨yb, 3, none⟩ = false := blk_free hin.y 3
  have hyl := blk_lt hin.y
  have hbw : b < w.heap.size := by have := hin.b0.size; omega
  have q9 : ((st.steps : Int) == (fuel : Int)) = false := by rw [beq_eq_false_iff_ne]; omega
  have hss := hs.s
  have hsf := hs.f
  generalize partsV fuel k kids env { st with steps := st.steps + 1 } = R at *
  have HC : Hid _ := hc
  clear hc hp hT hin henv hs he hev hq g0 g2 g4
  unfold ptr at HC
  show Calls _ _ #[Value.pointer (some ⟨yb, 0, none⟩), Value.pointer (some ⟨b, 0, none⟩)] w _
  go_enter Tryz.func34, Tryz.ntmps34
  go_wp2_with fail
  go_quiet (fail)
  go_wp2_with fail
  refine Calls.mono (HC.out _) ?_
  rintro _ w2 ⟨rfl, nv2, tv2, hfr2, hin2⟩
  have HF2 : Hid _ := hfr2
  have HI2 : Hid _ := hin2
  clear hfr2 hin2 HC
  go_wp2
  go_ret
  exact ⟨rfl, nv2, tv2, (Fr.setAt w yb nv tv _ 3 _).trans HF2.out, HI2.out⟩

set_option maxRecDepth 100000 in
set_option maxHeartbeats 4000000 in
theorem parts_pair {w0 : World} (yb fuel p : Nat) (nm rg : List UInt8) (x y : PT) (G : TEnv) (A B : Ty) (hwx : WT G x A) (hwy : WT G y B) (hsz : A.size + B.size ≤ 63) (htx : x.tame) (hty : y.tame) (hnx : NoNew x) (hny : NoNew y) (ihx : TWork w0 yb fuel x G) (ihy : TWork w0 yb fuel y G) : PartsOk w0 yb fuel p .pair nm rg [x, y] G := by
  intro id site b F env st nv tv w hT hin henv he hlen hs
  obtain ⟨gk, vc, bx, bb, id1, site1, id2, site2, hka, hT1, hT2⟩ := kat2 hT
  have hne : b ≠ yb := by have := hin.hyb; have := hka.hb; omega
  have hgy : gk ≠ yb := by have := hin.hyb; have := hka.hg; omega
  simp only [cntL] at hlen
  rw [partsV2]
  have hr1 := ev_res fuel hwx env st htx hnx (fun _ => henv)
  have h1 := ihx id1 site1 bx F env st nv tv _ hT1 hin (fun _ => henv) (by omega) hs
  have hs2 := hs.on x env
  generalize ev fuel x env st = r1 at *
  have hr2 := ev_res fuel hwy env r1.2 hty hny (fun _ => henv)
  have h2 := fun nv2 tv2 w2 (hin2 : TaIn w0 w2 yb nv2 tv2 env fuel r1.2) => ihy id2 site2 bb F env r1.2 nv2 tv2 w2 hT2 hin2 (fun _ => henv) (by omega) hs2
  have hs3 := hs2.on y env
  generalize ev fuel y env r1.2 = r2 at *
  obtain ⟨R, hR⟩ : ∃ R, R = if r2.2.e ≠ 0 then (Vl.n 0, r2.2) else madeV .pair [r1.1, r2.1] r2.2 := ⟨_, rfl⟩
  rw [← hR]
  have HRN : Hid (r2.2.e = 0 → R = madeV .pair [r1.1, r2.1] r2.2) := fun h => by rw [hR, if_neg (fun g => g h)]
  have HRE : Hid (r2.2.e ≠ 0 → R = (Vl.n 0, r2.2)) := fun h => by rw [hR, if_pos h]
  clear hR
  have hkw := hka.on hin.b0
  have x4 := hkw.c4
  have xk0 := hkw.ck 0 bx rfl
  have xl1 := hkw.hb
  have xl2 := hkw.hg
  have q_pair : ((bs Kw.pair.bytes).toList == [112, 97, 105, 114]) = true := by rw [bs_beq0]; decide
  have HK : Hid _ := hka
  unfold ptr at h1 h2
  have H1 : Hid _ := h1
  have H2 : Hid _ := h2
  have HL : Hid (r2.2.e = 0 → r1.1.txt.length ≤ 1000 ∧ r2.1.txt.length ≤ 1000) := fun e => by
    have a := hr2.1 e
    have b := hr1.1 a.1
    have := Vl.has_len a.2
    have := Vl.has_len b.2
    omega
  have hcl := hs3.c
  have hcs := hs3.s
  have hcf := hs3.f
  clear hka hkw hT hin henv hs he hT1 hT2 ihx ihy hs2 h1 h2
  clear hr1 hr2 hs3
  show Calls _ _ #[Value.pointer (some ⟨yb, 0, none⟩), Value.pointer (some ⟨b, 0, none⟩)] w _
  go_enter Tryz.func64, Tryz.ntmps64
  go_wp2_with fail
  refine Calls.mono H1.out ?_
  rintro _ w2 ⟨rfl, nv2, tv2, hfr2, hin2⟩
  have hkw := HK.out.on hin2.b0
  have z4 := hkw.c4
  have zk1 := hkw.ck 1 bb rfl
  have zl1 := hkw.hb
  have zl2 := hkw.hg
  have hc2 := H2.out nv2 tv2 w2 hin2
  have HF2 : Hid _ := hfr2
  clear hfr2 hin2 hkw H1 H2
  go_wp2_with fail
  refine hc2.mono ?_
  rintro _ w3 ⟨rfl, nv3, tv3, hfr3, hin3⟩
  have HF3 : Hid _ := HF2.out.trans hfr3
  have HI3 : Hid _ := hin3
  have hkw := HK.out.on hin3.b0
  have u0 := hkw.c0
  have ul1 := hkw.hb
  have e5 : w3.cell? ⟨yb, 5, none⟩ = some (.int .i64 r2.2.e) := by rw [blk_cell hin3.y]; rfl
  have e4 : w3.cell? ⟨yb, 4, none⟩ = some (.int .i64 r2.2.cells) := by rw [blk_cell hin3.y]; rfl
  have f4 : w3.frozen? ⟨yb, 4, none⟩ = false := blk_free hin3.y 4
  have ul := blk_lt hin3.y
  clear hfr3 hin3 hc2 HF2 hkw HK
  by_cases he3 : r2.2.e = 0
  · have qe : ((r2.2.e : Int) != 0) = false := by rw [he3]; rfl
    have hRR := HRN.out he3
    obtain ⟨l1, l2⟩ := HL.out he3
    have z1 : (ByteArray.mk #[91]).size = 1 := rfl
    have z0 : (bs r1.1.txt).size ≤ 1000 := by rw [bs_size]; exact l1
    have z2 : (ByteArray.mk #[91] ++ bs r1.1.txt).size ≤ 1001 := by rw [ByteArray.size_append, z1]; omega
    have z3 : (ByteArray.mk #[32]).size = 1 := rfl
    have z4' : (ByteArray.mk #[91] ++ bs r1.1.txt ++ ByteArray.mk #[32]).size ≤ 1002 := by rw [ByteArray.size_append, z3]; omega
    have z5 : (bs r2.1.txt).size ≤ 1000 := by rw [bs_size]; exact l2
    have z6 : (ByteArray.mk #[91] ++ bs r1.1.txt ++ ByteArray.mk #[32] ++ bs r2.1.txt).size ≤ 2002 := by rw [ByteArray.size_append]; omega
    have z7 : (ByteArray.mk #[93]).size = 1 := rfl
    have hm : madeV .pair [r1.1, r2.1] r2.2 = (.p r1.1 r2.1, { r2.2 with cells := r2.2.cells + 1 }) := rfl
    have HRR : Hid _ := hRR.trans hm
    have hset := HI3.out.set 4 (.int .i64 ((r2.2.cells : Int) + 1)) (st' := { r2.2 with cells := r2.2.cells + 1 }) (by simp [taCells])
    have HSET : Hid _ := hset
    clear hset hm he3 HL hRR
    go_wp2
    go_ret
    rw [HRR.out]
    refine ⟨?_, nv3, tv3, HF3.out.trans (Fr.grown (gr_set w3 ⟨yb, 4, none⟩ _) _ _ _), HSET.out⟩
    have e : (ByteArray.mk #[91] ++ bs r1.1.txt ++ ByteArray.mk #[32] ++ bs r2.1.txt ++ ByteArray.mk #[93]) = bs (Vl.p r1.1 r2.1).txt := by
      rw [show ByteArray.mk #[91] = bs [91] from rfl, show ByteArray.mk #[32] = bs [32] from rfl, show ByteArray.mk #[93] = bs [93] from rfl, bs_app, bs_app, bs_app, bs_app]
      simp [Vl.txt]
    rw [← e]; rfl
  · have qe : ((r2.2.e : Int) != 0) = true := by simp; omega
    have HRR : Hid _ := HRE.out he3
    clear he3
    go_wp2
    go_ret
    rw [HRR.out]
    exact ⟨by rw [txt_zero]; rfl, nv3, tv3, HF3.out, HI3.out⟩

end Go.Proofs.YtpicaknklgccoaaGreatDoor

/- leaseref's Tale.parts, on. -/
namespace Go.Proofs.YtpicaknklgccoaaGreatDoor
open Go.RowKit
open Go.Lib (decDigits)

set_option maxRecDepth 100000 in
set_option maxHeartbeats 4000000 in
theorem parts_fst {w0 : World} (yb fuel p : Nat) (nm rg : List UInt8) (x : PT) (G : TEnv) (A B : Ty) (hwx : WT G x (.p 0 A B)) (hsz : (Ty.p 0 A B).size ≤ 63) (htx : x.tame) (hnx : NoNew x) (ihx : TWork w0 yb fuel x G) : PartsOk w0 yb fuel p .fst nm rg [x] G := by
  intro id site b F env st nv tv w hT hin henv he hlen hs
  obtain ⟨gk, vc, bx, id1, site1, hka, hT1⟩ := kat1 hT
  have hne : b ≠ yb := by have := hin.hyb; have := hka.hb; omega
  have hgy : gk ≠ yb := by have := hin.hyb; have := hka.hg; omega
  simp only [cntL] at hlen
  rw [partsV1]
  have hr1 := ev_res fuel hwx env st htx hnx (fun _ => henv)
  have h1 := ihx id1 site1 bx F env st nv tv _ hT1 hin (fun _ => henv) (by omega) hs
  have hs2 := hs.on x env
  generalize ev fuel x env st = r1 at *
  obtain ⟨R, hR⟩ : ∃ R, R = if r1.2.e ≠ 0 then (Vl.n 0, r1.2) else madeV .fst [r1.1] r1.2 := ⟨_, rfl⟩
  rw [← hR]
  have HRN : Hid (r1.2.e = 0 → R = madeV .fst [r1.1] r1.2) := fun h => by rw [hR, if_neg (fun g => g h)]
  have HRE : Hid (r1.2.e ≠ 0 → R = (Vl.n 0, r1.2)) := fun h => by rw [hR, if_pos h]
  clear hR
  have hkw := hka.on hin.b0
  have x4 := hkw.c4
  have xk0 := hkw.ck 0 bx rfl
  have xl1 := hkw.hb
  have xl2 := hkw.hg
  have q_pair : ((bs Kw.fst.bytes).toList == [112, 97, 105, 114]) = false := by rw [bs_beq0]; decide
  have q_fst : ((bs Kw.fst.bytes).toList == [102, 115, 116]) = true := by rw [bs_beq0]; decide
  have HK : Hid _ := hka
  unfold ptr at h1
  have H1 : Hid _ := h1
  have HL : Hid (r1.2.e = 0 → ∃ a b, r1.1 = .p a b ∧ (Vl.p a b).txt.length ≤ 1000) := fun e => by
    have a := (hr1.1 e).2
    have hl := Vl.has_len a
    cases hv : r1.1 with
    | n k => rw [hv] at a; simp [Vl.has] at a
    | p u v => rw [hv] at hl; exact ⟨u, v, rfl, by omega⟩
  clear hka hkw hT hin henv hs he hT1 ihx hs2 h1
  clear hr1
  show Calls _ _ #[Value.pointer (some ⟨yb, 0, none⟩), Value.pointer (some ⟨b, 0, none⟩)] w _
  go_enter Tryz.func64, Tryz.ntmps64
  go_wp2_with fail
  refine Calls.mono H1.out ?_
  rintro _ w2 ⟨rfl, nv2, tv2, hfr2, hin2⟩
  have HF3 : Hid _ := hfr2
  have HI3 : Hid _ := hin2
  have hkw := HK.out.on hin2.b0
  have u0 := hkw.c0
  have u4 := hkw.c4
  have ul1 := hkw.hb
  have e5 : w2.cell? ⟨yb, 5, none⟩ = some (.int .i64 r1.2.e) := by rw [blk_cell hin2.y]; rfl
  have ul := blk_lt hin2.y
  clear hfr2 hin2 hkw HK H1
  by_cases he3 : r1.2.e = 0
  · have qe : ((r1.2.e : Int) != 0) = false := by rw [he3]; rfl
    have hRR := HRN.out he3
    obtain ⟨a, b', hab, hl⟩ := HL.out he3
    have hm : madeV .fst [r1.1] r1.2 = (a, r1.2) := by rw [hab]; rfl
    have HRR : Hid _ := hRR.trans hm
    have hsp := fun w => split_p a b' w (by omega)
    clear hm he3 HL hRR
    go_wp2_with fail
    refine (hsp _).mono ?_
    rintro _ w4 ⟨rfl, n4, rfl⟩
    go_wp2
    go_ret
    rw [HRR.out]
    exact ⟨rfl, nv2, tv2, HF3.out.trans (Fr.below (below_drew w2 n4) _ _ _ _), HI3.out.drew n4⟩
  · have qe : ((r1.2.e : Int) != 0) = true := by simp; omega
    have HRR : Hid _ := HRE.out he3
    clear he3
    go_wp2
    go_ret
    rw [HRR.out]
    exact ⟨by rw [txt_zero]; rfl, nv2, tv2, HF3.out, HI3.out⟩

set_option maxRecDepth 100000 in
set_option maxHeartbeats 4000000 in
theorem parts_snd {w0 : World} (yb fuel p : Nat) (nm rg : List UInt8) (x : PT) (G : TEnv) (A B : Ty) (hwx : WT G x (.p 0 A B)) (hsz : (Ty.p 0 A B).size ≤ 63) (htx : x.tame) (hnx : NoNew x) (ihx : TWork w0 yb fuel x G) : PartsOk w0 yb fuel p .snd nm rg [x] G := by
  intro id site b F env st nv tv w hT hin henv he hlen hs
  obtain ⟨gk, vc, bx, id1, site1, hka, hT1⟩ := kat1 hT
  have hne : b ≠ yb := by have := hin.hyb; have := hka.hb; omega
  have hgy : gk ≠ yb := by have := hin.hyb; have := hka.hg; omega
  simp only [cntL] at hlen
  rw [partsV1]
  have hr1 := ev_res fuel hwx env st htx hnx (fun _ => henv)
  have h1 := ihx id1 site1 bx F env st nv tv _ hT1 hin (fun _ => henv) (by omega) hs
  have hs2 := hs.on x env
  generalize ev fuel x env st = r1 at *
  obtain ⟨R, hR⟩ : ∃ R, R = if r1.2.e ≠ 0 then (Vl.n 0, r1.2) else madeV .snd [r1.1] r1.2 := ⟨_, rfl⟩
  rw [← hR]
  have HRN : Hid (r1.2.e = 0 → R = madeV .snd [r1.1] r1.2) := fun h => by rw [hR, if_neg (fun g => g h)]
  have HRE : Hid (r1.2.e ≠ 0 → R = (Vl.n 0, r1.2)) := fun h => by rw [hR, if_pos h]
  clear hR
  have hkw := hka.on hin.b0
  have x4 := hkw.c4
  have xk0 := hkw.ck 0 bx rfl
  have xl1 := hkw.hb
  have xl2 := hkw.hg
  have q_pair : ((bs Kw.snd.bytes).toList == [112, 97, 105, 114]) = false := by rw [bs_beq0]; decide
  have q_fst : ((bs Kw.snd.bytes).toList == [102, 115, 116]) = false := by rw [bs_beq0]; decide
  have q_snd : ((bs Kw.snd.bytes).toList == [115, 110, 100]) = true := by rw [bs_beq0]; decide
  have HK : Hid _ := hka
  unfold ptr at h1
  have H1 : Hid _ := h1
  have HL : Hid (r1.2.e = 0 → ∃ a b, r1.1 = .p a b ∧ (Vl.p a b).txt.length ≤ 1000) := fun e => by
    have a := (hr1.1 e).2
    have hl := Vl.has_len a
    cases hv : r1.1 with
    | n k => rw [hv] at a; simp [Vl.has] at a
    | p u v => rw [hv] at hl; exact ⟨u, v, rfl, by omega⟩
  clear hka hkw hT hin henv hs he hT1 ihx hs2 h1
  clear hr1
  show Calls _ _ #[Value.pointer (some ⟨yb, 0, none⟩), Value.pointer (some ⟨b, 0, none⟩)] w _
  go_enter Tryz.func64, Tryz.ntmps64
  go_wp2_with fail
  refine Calls.mono H1.out ?_
  rintro _ w2 ⟨rfl, nv2, tv2, hfr2, hin2⟩
  have HF3 : Hid _ := hfr2
  have HI3 : Hid _ := hin2
  have hkw := HK.out.on hin2.b0
  have u0 := hkw.c0
  have u4 := hkw.c4
  have ul1 := hkw.hb
  have e5 : w2.cell? ⟨yb, 5, none⟩ = some (.int .i64 r1.2.e) := by rw [blk_cell hin2.y]; rfl
  have ul := blk_lt hin2.y
  clear hfr2 hin2 hkw HK H1
  by_cases he3 : r1.2.e = 0
  · have qe : ((r1.2.e : Int) != 0) = false := by rw [he3]; rfl
    have hRR := HRN.out he3
    obtain ⟨a, b', hab, hl⟩ := HL.out he3
    have hm : madeV .snd [r1.1] r1.2 = (b', r1.2) := by rw [hab]; rfl
    have HRR : Hid _ := hRR.trans hm
    have hsp := fun w => split_p a b' w (by omega)
    clear hm he3 HL hRR
    go_wp2_with fail
    refine (hsp _).mono ?_
    rintro _ w4 ⟨rfl, n4, rfl⟩
    go_wp2
    go_ret
    rw [HRR.out]
    exact ⟨rfl, nv2, tv2, HF3.out.trans (Fr.below (below_drew w2 n4) _ _ _ _), HI3.out.drew n4⟩
  · have qe : ((r1.2.e : Int) != 0) = true := by simp; omega
    have HRR : Hid _ := HRE.out he3
    clear he3
    go_wp2
    go_ret
    rw [HRR.out]
    exact ⟨by rw [txt_zero]; rfl, nv2, tv2, HF3.out, HI3.out⟩

end Go.Proofs.YtpicaknklgccoaaGreatDoor

/- leaseref's Tale.parts, on. -/
namespace Go.Proofs.YtpicaknklgccoaaGreatDoor
open Go.RowKit
open Go.Lib (decDigits)

set_option maxRecDepth 100000 in
set_option maxHeartbeats 4000000 in
theorem parts_add {w0 : World} (hit : ItoaOk w0) (yb fuel p : Nat) (nm rg : List UInt8) (x y : PT) (G : TEnv) (hwx : WT G x .n) (hwy : WT G y .n) (htx : x.tame) (hty : y.tame) (hnx : NoNew x) (hny : NoNew y) (ihx : TWork w0 yb fuel x G) (ihy : TWork w0 yb fuel y G) : PartsOk w0 yb fuel p .add nm rg [x, y] G := by
  intro id site b F env st nv tv w hT hin henv he hlen hs
  obtain ⟨gk, vc, bx, bb, id1, site1, id2, site2, hka, hT1, hT2⟩ := kat2 hT
  have hne : b ≠ yb := by have := hin.hyb; have := hka.hb; omega
  have hgy : gk ≠ yb := by have := hin.hyb; have := hka.hg; omega
  simp only [cntL] at hlen
  rw [partsV2]
  have hr1 := ev_res fuel hwx env st htx hnx (fun _ => henv)
  have h1 := ihx id1 site1 bx F env st nv tv _ hT1 hin (fun _ => henv) (by omega) hs
  have hs2 := hs.on x env
  generalize ev fuel x env st = r1 at *
  have hr2 := ev_res fuel hwy env r1.2 hty hny (fun _ => henv)
  have h2 := fun nv2 tv2 w2 (hin2 : TaIn w0 w2 yb nv2 tv2 env fuel r1.2) => ihy id2 site2 bb F env r1.2 nv2 tv2 w2 hT2 hin2 (fun _ => henv) (by omega) hs2
  have hs3 := hs2.on y env
  generalize ev fuel y env r1.2 = r2 at *
  obtain ⟨R, hR⟩ : ∃ R, R = if r2.2.e ≠ 0 then (Vl.n 0, r2.2) else madeV .add [r1.1, r2.1] r2.2 := ⟨_, rfl⟩
  rw [← hR]
  have HRN : Hid (r2.2.e = 0 → R = madeV .add [r1.1, r2.1] r2.2) := fun h => by rw [hR, if_neg (fun g => g h)]
  have HRE : Hid (r2.2.e ≠ 0 → R = (Vl.n 0, r2.2)) := fun h => by rw [hR, if_pos h]
  clear hR
  have hkw := hka.on hin.b0
  have x4 := hkw.c4
  have xk0 := hkw.ck 0 bx rfl
  have xl1 := hkw.hb
  have xl2 := hkw.hg
  have q_pair : ((bs Kw.add.bytes).toList == [112, 97, 105, 114]) = false := by rw [bs_beq0]; decide
  have q_fst : ((bs Kw.add.bytes).toList == [102, 115, 116]) = false := by rw [bs_beq0]; decide
  have q_snd : ((bs Kw.add.bytes).toList == [115, 110, 100]) = false := by rw [bs_beq0]; decide
  have q_add : ((bs Kw.add.bytes).toList == [97, 100, 100]) = true := by rw [bs_beq0]; decide
  obtain ⟨k1, hk1, hk19⟩ := res_num hr1
  obtain ⟨k2, hk2, hk29⟩ := res_num hr2
  rw [hk1] at h1
  rw [hk2] at h2
  rw [hk1, hk2] at HRN
  have hn1 := fun w => number_dec k1 w hk19
  have hn2 := fun w => number_dec k2 w hk29
  simp only [Vl.txt] at h1 h2
  have HK : Hid _ := hka
  unfold ptr at h1 h2
  have H1 : Hid _ := h1
  have H2 : Hid _ := h2
  clear hka hkw hT hin henv hs he hT1 hT2 ihx ihy hs2 h1 h2
  clear hr1 hr2 hs3 hk1 hk2
  show Calls _ _ #[Value.pointer (some ⟨yb, 0, none⟩), Value.pointer (some ⟨b, 0, none⟩)] w _
  go_enter Tryz.func64, Tryz.ntmps64
  go_wp2_with fail
  refine Calls.mono H1.out ?_
  rintro _ w2 ⟨rfl, nv2, tv2, hfr2, hin2⟩
  have hkw := HK.out.on hin2.b0
  have z4 := hkw.c4
  have zk1 := hkw.ck 1 bb rfl
  have zl1 := hkw.hb
  have zl2 := hkw.hg
  have hc2 := H2.out nv2 tv2 w2 hin2
  have HF2 : Hid _ := hfr2
  clear hfr2 hin2 hkw H1 H2
  go_wp2_with fail
  refine hc2.mono ?_
  rintro _ w3 ⟨rfl, nv3, tv3, hfr3, hin3⟩
  have HF3 : Hid _ := HF2.out.trans hfr3
  have HI3 : Hid _ := hin3
  have hkw := HK.out.on hin3.b0
  have u0 := hkw.c0
  have ul1 := hkw.hb
  have e5 : w3.cell? ⟨yb, 5, none⟩ = some (.int .i64 r2.2.e) := by rw [blk_cell hin3.y]; rfl
  have e4 : w3.cell? ⟨yb, 4, none⟩ = some (.int .i64 r2.2.cells) := by rw [blk_cell hin3.y]; rfl
  have f4 : w3.frozen? ⟨yb, 4, none⟩ = false := blk_free hin3.y 4
  have ul := blk_lt hin3.y
  clear hfr3 hin3 hc2 HF2 hkw HK
  by_cases he3 : r2.2.e = 0
  · have qe : ((r2.2.e : Int) != 0) = false := by rw [he3]; rfl
    have hRR := HRN.out he3
    have hm : madeV .add [.n k1, .n k2] r2.2 = (.n ((k1 + k2) % 10000), r2.2) := rfl
    have HRR : Hid _ := hRR.trans hm
    have hi := hit ((k1 + k2) % 10000) w3 (by omega) HI3.out.b0
    rw [← tmod_add k1 k2] at hi
    clear hm he3 hRR
    go_wp2_with fail
    refine (hn1 _).mono ?_
    rintro _ w3 ⟨rfl, rfl⟩
    go_wp2_with fail
    refine (hn2 _).mono ?_
    rintro _ w3 ⟨rfl, rfl⟩
    go_wp2_with fail
    refine hi.mono ?_
    rintro _ w4 ⟨rfl, hb4⟩
    go_wp2
    go_ret
    rw [HRR.out]
    exact ⟨by simp only [Vl.txt]; rfl, nv3, tv3, HF3.out.trans (Fr.below hb4 _ _ _ _), HI3.out.grow hb4⟩
  · have qe : ((r2.2.e : Int) != 0) = true := by simp; omega
    have HRR : Hid _ := HRE.out he3
    clear he3
    go_wp2
    go_ret
    rw [HRR.out]
    exact ⟨by rw [txt_zero]; rfl, nv3, tv3, HF3.out, HI3.out⟩

set_option maxRecDepth 100000 in
set_option maxHeartbeats 4000000 in
theorem parts_sub {w0 : World} (hit : ItoaOk w0) (yb fuel p : Nat) (nm rg : List UInt8) (x y : PT) (G : TEnv) (hwx : WT G x .n) (hwy : WT G y .n) (htx : x.tame) (hty : y.tame) (hnx : NoNew x) (hny : NoNew y) (ihx : TWork w0 yb fuel x G) (ihy : TWork w0 yb fuel y G) : PartsOk w0 yb fuel p .sub nm rg [x, y] G := by
  intro id site b F env st nv tv w hT hin henv he hlen hs
  obtain ⟨gk, vc, bx, bb, id1, site1, id2, site2, hka, hT1, hT2⟩ := kat2 hT
  have hne : b ≠ yb := by have := hin.hyb; have := hka.hb; omega
  have hgy : gk ≠ yb := by have := hin.hyb; have := hka.hg; omega
  simp only [cntL] at hlen
  rw [partsV2]
  have hr1 := ev_res fuel hwx env st htx hnx (fun _ => henv)
  have h1 := ihx id1 site1 bx F env st nv tv _ hT1 hin (fun _ => henv) (by omega) hs
  have hs2 := hs.on x env
  generalize ev fuel x env st = r1 at *
  have hr2 := ev_res fuel hwy env r1.2 hty hny (fun _ => henv)
  have h2 := fun nv2 tv2 w2 (hin2 : TaIn w0 w2 yb nv2 tv2 env fuel r1.2) => ihy id2 site2 bb F env r1.2 nv2 tv2 w2 hT2 hin2 (fun _ => henv) (by omega) hs2
  have hs3 := hs2.on y env
  generalize ev fuel y env r1.2 = r2 at *
  obtain ⟨R, hR⟩ : ∃ R, R = if r2.2.e ≠ 0 then (Vl.n 0, r2.2) else madeV .sub [r1.1, r2.1] r2.2 := ⟨_, rfl⟩
  rw [← hR]
  have HRN : Hid (r2.2.e = 0 → R = madeV .sub [r1.1, r2.1] r2.2) := fun h => by rw [hR, if_neg (fun g => g h)]
  have HRE : Hid (r2.2.e ≠ 0 → R = (Vl.n 0, r2.2)) := fun h => by rw [hR, if_pos h]
  clear hR
  have hkw := hka.on hin.b0
  have x4 := hkw.c4
  have xk0 := hkw.ck 0 bx rfl
  have xl1 := hkw.hb
  have xl2 := hkw.hg
  have q_pair : ((bs Kw.sub.bytes).toList == [112, 97, 105, 114]) = false := by rw [bs_beq0]; decide
  have q_fst : ((bs Kw.sub.bytes).toList == [102, 115, 116]) = false := by rw [bs_beq0]; decide
  have q_snd : ((bs Kw.sub.bytes).toList == [115, 110, 100]) = false := by rw [bs_beq0]; decide
  have q_add : ((bs Kw.sub.bytes).toList == [97, 100, 100]) = false := by rw [bs_beq0]; decide
  have q_sub : ((bs Kw.sub.bytes).toList == [115, 117, 98]) = true := by rw [bs_beq0]; decide
  obtain ⟨k1, hk1, hk19⟩ := res_num hr1
  obtain ⟨k2, hk2, hk29⟩ := res_num hr2
  rw [hk1] at h1
  rw [hk2] at h2
  rw [hk1, hk2] at HRN
  have hn1 := fun w => number_dec k1 w hk19
  have hn2 := fun w => number_dec k2 w hk29
  simp only [Vl.txt] at h1 h2
  have HK : Hid _ := hka
  unfold ptr at h1 h2
  have H1 : Hid _ := h1
  have H2 : Hid _ := h2
  clear hka hkw hT hin henv hs he hT1 hT2 ihx ihy hs2 h1 h2
  clear hr1 hr2 hs3 hk1 hk2
  show Calls _ _ #[Value.pointer (some ⟨yb, 0, none⟩), Value.pointer (some ⟨b, 0, none⟩)] w _
  go_enter Tryz.func64, Tryz.ntmps64
  go_wp2_with fail
  refine Calls.mono H1.out ?_
  rintro _ w2 ⟨rfl, nv2, tv2, hfr2, hin2⟩
  have hkw := HK.out.on hin2.b0
  have z4 := hkw.c4
  have zk1 := hkw.ck 1 bb rfl
  have zl1 := hkw.hb
  have zl2 := hkw.hg
  have hc2 := H2.out nv2 tv2 w2 hin2
  have HF2 : Hid _ := hfr2
  clear hfr2 hin2 hkw H1 H2
  go_wp2_with fail
  refine hc2.mono ?_
  rintro _ w3 ⟨rfl, nv3, tv3, hfr3, hin3⟩
  have HF3 : Hid _ := HF2.out.trans hfr3
  have HI3 : Hid _ := hin3
  have hkw := HK.out.on hin3.b0
  have u0 := hkw.c0
  have ul1 := hkw.hb
  have e5 : w3.cell? ⟨yb, 5, none⟩ = some (.int .i64 r2.2.e) := by rw [blk_cell hin3.y]; rfl
  have e4 : w3.cell? ⟨yb, 4, none⟩ = some (.int .i64 r2.2.cells) := by rw [blk_cell hin3.y]; rfl
  have f4 : w3.frozen? ⟨yb, 4, none⟩ = false := blk_free hin3.y 4
  have ul := blk_lt hin3.y
  clear hfr3 hin3 hc2 HF2 hkw HK
  by_cases he3 : r2.2.e = 0
  · have qe : ((r2.2.e : Int) != 0) = false := by rw [he3]; rfl
    have hRR := HRN.out he3
    have hm : madeV .sub [.n k1, .n k2] r2.2 = (.n ((k1 + 10000 - k2) % 10000), r2.2) := rfl
    have HRR : Hid _ := hRR.trans hm
    have hi := hit ((k1 + 10000 - k2) % 10000) w3 (by omega) HI3.out.b0
    rw [← tmod_sub k1 k2 hk29] at hi
    clear hm he3 hRR
    go_wp2_with fail
    refine (hn1 _).mono ?_
    rintro _ w3 ⟨rfl, rfl⟩
    go_wp2_with fail
    refine (hn2 _).mono ?_
    rintro _ w3 ⟨rfl, rfl⟩
    go_wp2_with fail
    refine hi.mono ?_
    rintro _ w4 ⟨rfl, hb4⟩
    go_wp2
    go_ret
    rw [HRR.out]
    exact ⟨by simp only [Vl.txt]; rfl, nv3, tv3, HF3.out.trans (Fr.below hb4 _ _ _ _), HI3.out.grow hb4⟩
  · have qe : ((r2.2.e : Int) != 0) = true := by simp; omega
    have HRR : Hid _ := HRE.out he3
    clear he3
    go_wp2
    go_ret
    rw [HRR.out]
    exact ⟨by rw [txt_zero]; rfl, nv3, tv3, HF3.out, HI3.out⟩

set_option maxRecDepth 100000 in
set_option maxHeartbeats 4000000 in
theorem parts_less {w0 : World} (yb fuel p : Nat) (nm rg : List UInt8) (x y : PT) (G : TEnv) (hwx : WT G x .n) (hwy : WT G y .n) (htx : x.tame) (hty : y.tame) (hnx : NoNew x) (hny : NoNew y) (ihx : TWork w0 yb fuel x G) (ihy : TWork w0 yb fuel y G) : PartsOk w0 yb fuel p .less nm rg [x, y] G := by
  intro id site b F env st nv tv w hT hin henv he hlen hs
  obtain ⟨gk, vc, bx, bb, id1, site1, id2, site2, hka, hT1, hT2⟩ := kat2 hT
  have hne : b ≠ yb := by have := hin.hyb; have := hka.hb; omega
  have hgy : gk ≠ yb := by have := hin.hyb; have := hka.hg; omega
  simp only [cntL] at hlen
  rw [partsV2]
  have hr1 := ev_res fuel hwx env st htx hnx (fun _ => henv)
  have h1 := ihx id1 site1 bx F env st nv tv _ hT1 hin (fun _ => henv) (by omega) hs
  have hs2 := hs.on x env
  generalize ev fuel x env st = r1 at *
  have hr2 := ev_res fuel hwy env r1.2 hty hny (fun _ => henv)
  have h2 := fun nv2 tv2 w2 (hin2 : TaIn w0 w2 yb nv2 tv2 env fuel r1.2) => ihy id2 site2 bb F env r1.2 nv2 tv2 w2 hT2 hin2 (fun _ => henv) (by omega) hs2
  have hs3 := hs2.on y env
  generalize ev fuel y env r1.2 = r2 at *
  obtain ⟨R, hR⟩ : ∃ R, R = if r2.2.e ≠ 0 then (Vl.n 0, r2.2) else madeV .less [r1.1, r2.1] r2.2 := ⟨_, rfl⟩
  rw [← hR]
  have HRN : Hid (r2.2.e = 0 → R = madeV .less [r1.1, r2.1] r2.2) := fun h => by rw [hR, if_neg (fun g => g h)]
  have HRE : Hid (r2.2.e ≠ 0 → R = (Vl.n 0, r2.2)) := fun h => by rw [hR, if_pos h]
  clear hR
  have hkw := hka.on hin.b0
  have x4 := hkw.c4
  have xk0 := hkw.ck 0 bx rfl
  have xl1 := hkw.hb
  have xl2 := hkw.hg
  have q_pair : ((bs Kw.less.bytes).toList == [112, 97, 105, 114]) = false := by rw [bs_beq0]; decide
  have q_fst : ((bs Kw.less.bytes).toList == [102, 115, 116]) = false := by rw [bs_beq0]; decide
  have q_snd : ((bs Kw.less.bytes).toList == [115, 110, 100]) = false := by rw [bs_beq0]; decide
  have q_add : ((bs Kw.less.bytes).toList == [97, 100, 100]) = false := by rw [bs_beq0]; decide
  have q_sub : ((bs Kw.less.bytes).toList == [115, 117, 98]) = false := by rw [bs_beq0]; decide
  obtain ⟨k1, hk1, hk19⟩ := res_num hr1
  obtain ⟨k2, hk2, hk29⟩ := res_num hr2
  rw [hk1] at h1
  rw [hk2] at h2
  rw [hk1, hk2] at HRN
  have hn1 := fun w => number_dec k1 w hk19
  have hn2 := fun w => number_dec k2 w hk29
  simp only [Vl.txt] at h1 h2
  have HK : Hid _ := hka
  unfold ptr at h1 h2
  have H1 : Hid _ := h1
  have H2 : Hid _ := h2
  clear hka hkw hT hin henv hs he hT1 hT2 ihx ihy hs2 h1 h2
  clear hr1 hr2 hs3 hk1 hk2
  show Calls _ _ #[Value.pointer (some ⟨yb, 0, none⟩), Value.pointer (some ⟨b, 0, none⟩)] w _
  go_enter Tryz.func64, Tryz.ntmps64
  go_wp2_with fail
  refine Calls.mono H1.out ?_
  rintro _ w2 ⟨rfl, nv2, tv2, hfr2, hin2⟩
  have hkw := HK.out.on hin2.b0
  have z4 := hkw.c4
  have zk1 := hkw.ck 1 bb rfl
  have zl1 := hkw.hb
  have zl2 := hkw.hg
  have hc2 := H2.out nv2 tv2 w2 hin2
  have HF2 : Hid _ := hfr2
  clear hfr2 hin2 hkw H1 H2
  go_wp2_with fail
  refine hc2.mono ?_
  rintro _ w3 ⟨rfl, nv3, tv3, hfr3, hin3⟩
  have HF3 : Hid _ := HF2.out.trans hfr3
  have HI3 : Hid _ := hin3
  have hkw := HK.out.on hin3.b0
  have u0 := hkw.c0
  have ul1 := hkw.hb
  have e5 : w3.cell? ⟨yb, 5, none⟩ = some (.int .i64 r2.2.e) := by rw [blk_cell hin3.y]; rfl
  have e4 : w3.cell? ⟨yb, 4, none⟩ = some (.int .i64 r2.2.cells) := by rw [blk_cell hin3.y]; rfl
  have f4 : w3.frozen? ⟨yb, 4, none⟩ = false := blk_free hin3.y 4
  have ul := blk_lt hin3.y
  clear hfr3 hin3 hc2 HF2 hkw HK
  by_cases he3 : r2.2.e = 0
  · have qe : ((r2.2.e : Int) != 0) = false := by rw [he3]; rfl
    have hRR := HRN.out he3
    have hm : madeV .less [.n k1, .n k2] r2.2 = (.n (if k1 < k2 then 1 else 0), r2.2) := rfl
    have hRm := hRR.trans hm
    clear hm he3 hRR
    by_cases hlt : k1 < k2
    · have HRR : Hid _ := hRm
      go_wp2_with fail
      refine (hn1 _).mono ?_
      rintro _ w3 ⟨rfl, rfl⟩
      go_wp2_with fail
      refine (hn2 _).mono ?_
      rintro _ w3 ⟨rfl, rfl⟩
      go_wp2
      go_ret
      rw [HRR.out, if_pos hlt]
      exact ⟨by rw [txt_one]; rfl, nv3, tv3, HF3.out, HI3.out⟩
    · have HRR : Hid _ := hRm
      go_wp2_with fail
      refine (hn1 _).mono ?_
      rintro _ w3 ⟨rfl, rfl⟩
      go_wp2_with fail
      refine (hn2 _).mono ?_
      rintro _ w3 ⟨rfl, rfl⟩
      go_wp2
      go_ret
      rw [HRR.out, if_neg hlt]
      exact ⟨by rw [txt_zero]; rfl, nv3, tv3, HF3.out, HI3.out⟩
  · have qe : ((r2.2.e : Int) != 0) = true := by simp; omega
    have HRR : Hid _ := HRE.out he3
    clear he3
    go_wp2
    go_ret
    rw [HRR.out]
    exact ⟨by rw [txt_zero]; rfl, nv3, tv3, HF3.out, HI3.out⟩

end Go.Proofs.YtpicaknklgccoaaGreatDoor
