import Derived.Test.YtglkpkmdoohdcaaDoorRq
namespace Go.Proofs.YtglkpkmdoohdcaaDoor
open Go.RowKit

theorem fin_big {id p : Nat} {x : Ty × TSt} (h0 : x.2.e = 0) (h : 63 < x.1.size) : fin id p x = (x.1, { e := 6, at_ := p, of := x.2.of.set id x.1.txt }) := by
  simp only [fin, errS]; rw [if_pos ⟨h0, h⟩, if_pos h0]
theorem fin_small {id p : Nat} {x : Ty × TSt} (h : ¬ (x.2.e = 0 ∧ 63 < x.1.size)) : fin id p x = (x.1, { x.2 with of := x.2.of.set id x.1.txt }) := by
  simp only [fin]; rw [if_neg h]

set_option maxRecDepth 100000 in
set_option maxHeartbeats 2000000 in
theorem find_of {w0 : World} {yb : Nat} {cls : List Nat} {t : PT} {f : Nat → Nat → TEnv → TSt → Ty × TSt} (hf : FormOk w0 yb cls t f)
    (heq : ∀ id site env st, tyFind cls t id site env st = fin id t.pl (f id site env st)) (hlen : ∀ id site env st, (f id site env st).2.of.length = st.of.length) (hsize : ∀ id site (env : TEnv) (st : TSt), (∀ x ∈ env, x.2.fit) → (st.e = 0 → ∀ x ∈ env, x.2.size ≤ 63) → (f id site env st).1.fit) : FindOk w0 yb cls t := by
  intro id site b F env st cv nv tv ov w hT hin hid hsite hs1 hs2 henv
  have hfo := hf id site b F env st cv nv tv ov w hT hin hid hsite hs1 hs2 henv
  rw [heq]
  have hl := hlen id site env st
  have hsz := fit_len (hsize id site env st hs1 hs2)
  obtain ⟨ty, hty⟩ : ∃ x, x = f id site env st := ⟨_, rfl⟩
  rw [← hty] at hfo hl hsz ⊢
  obtain ⟨ty, st1⟩ := ty
  simp only at hfo hl hsz ⊢
  have hcp := cnt_pos t
  have hsa := size_any (bs ty.txt)
  rw [bs_toList, size_txt] at hsa
  have hsa' : ∀ w, (bs ty.txt).size ≤ maxLen → Calls Tryd.prog 84 #[.string (bs ty.txt)] w fun e w' => e = .returned (.int .i64 (ty.size : Nat)) ∧ w = w' := fun w h => (hsa w h).mono (fun _ _ h => ⟨h.1, h.2.symm⟩)
  clear hsa
  obtain ⟨op, nm, n, kv, last, hxb⟩ := isT_blk hT
  have hb := blk_lt hxb
  have HXB : Hid _ := hxb
  have hyb := hin.hyb
  have hbs : (bs ty.txt).size ≤ maxLen := by rw [bs_size]; unfold maxLen; omega
  clear hty hxb hs1 hs2 hT hin
  unfold ptr at hfo
  by_cases hbig : st1.e = 0 ∧ 63 < ty.size
  · obtain ⟨h0, h63⟩ := hbig
    have HFB : Hid _ := fin_big (id := id) (p := t.pl) (x := (ty, st1)) h0 h63
    show Calls _ _ #[Value.pointer (some ⟨yb, 0, none⟩), Value.pointer (some ⟨b, 0, none⟩)] w _
    go_enter Tryd.func58, Tryd.ntmps58
    go_wp2_with (first
      | (go_at_call 83; refine hfo.mono ?_; rintro e w1 ⟨rfl, nv', tv', hg1, hin1⟩; have y4 : w1.cell? ⟨yb, 4, none⟩ = some (.int .i64 0) := (by rw [blk_cell hin1.y]; show some (Value.int .i64 (st1.e : Nat)) = _; rw [h0]; rfl))
      | (go_at_call 84; refine (hsa' _ hbs).mono ?_; rintro e w' ⟨rfl, rfl⟩))
    have her := err_any w1 yb b cv nv' tv' ov kv st1.e st1.at_ 6 op nm t.pl n id last site (by omega) hin1.y (by rw [hin1.b0.block b hb]; exact HXB.out)
    unfold ptr at her
    rw [if_pos h0, if_pos h0] at her
    refine her.mono ?_
    rintro e w2 ⟨rfl, hg2, hy2⟩
    have hinx := hin1.err hg2 hy2
    have hg12 : Fr w w2 yb nv tv ov nv' tv' := hg1.trans (Fr.grown hg2 _ _ _)
    clear hin1 y4 hg2 hy2 her hg1
    have hg1 := hg12
    obtain ⟨st2, hst2⟩ : ∃ st2 : TSt, st2 = { st1 with e := 6, at_ := t.pl } := ⟨_, rfl⟩
    rw [← hst2] at hinx
    have hl2 : st2.of.length = st.of.length := by rw [hst2]; exact hl
    have HS2 : Hid _ := hst2
    clear hst2 h0 h63
    have o1 := hinx.o
    obtain ⟨go, oc, hov⟩ : ∃ go oc, ov = .slice (some ⟨go, 0, none⟩) st2.of.length oc := by
      rcases o1.2 with ⟨_, h⟩ | ⟨g, cap, cur, h, _⟩
      · omega
      · exact ⟨_, _, h⟩
    rw [hov] at hinx o1
    have y3 : w2.cell? ⟨yb, 3, none⟩ = some (.slice (some ⟨go, 0, none⟩) st2.of.length oc) := by rw [blk_cell hinx.y]; rfl
    have hbx : w2.heap[b]? = some (.cells (exCells op t.pl nm n kv id last site) 82 (0, 0)) := by rw [hinx.b0.block b hb]; exact HXB.out
    have x5 : w2.cell? ⟨b, 5, none⟩ = some (.int .i64 id) := by rw [blk_cell hbx]; rfl
    have z0 : w2.cell? ⟨go, id, none⟩ = some (strV (st2.of[id]'(by omega))) := by rw [o1.cellAt id (by omega), List.getElem?_map, List.getElem?_eq_getElem (by omega)]; rfl
    have z1 : w2.frozen? ⟨go, id, none⟩ = false := o1.frozenAt id
    have HIN : Hid (TyIn w0 w2 yb cls cv nv' tv' (.slice (some ⟨go, 0, none⟩) st2.of.length oc) env st2) := hinx
    have HOV : Hid _ := hov
    have HFR : Hid _ := hg1
    clear hinx o1 hbx hov hg1
    unfold strV at z0
    go_wp2
    go_region
    go_wp2
    go_ret
    have hse := TyIn.setOf HIN.out id ty.txt (w' := (w2.setCell ⟨go, id, none⟩ (.string (bs ty.txt))).drew) rfl rfl rfl rfl
    rw [HFB.out]
    refine ⟨rfl, nv', tv', HFR.out.trans (Fr.set _ _ _ (by rw [HOV.out]; rfl) rfl), ?_⟩
    rw [HOV.out]
    rw [HS2.out] at hse ⊢
    simpa using hse
  · have HFB : Hid _ := fin_small (id := id) (p := t.pl) (x := (ty, st1)) hbig
    show Calls _ _ #[Value.pointer (some ⟨yb, 0, none⟩), Value.pointer (some ⟨b, 0, none⟩)] w _
    by_cases h0 : st1.e = 0
    · have h63 : ty.size ≤ 63 := by omega
      go_enter Tryd.func58, Tryd.ntmps58
      go_wp2_with (first
        | (go_at_call 83; refine hfo.mono ?_; rintro e w1 ⟨rfl, nv', tv', hg1, hin1⟩; have y4 : w1.cell? ⟨yb, 4, none⟩ = some (.int .i64 0) := (by rw [blk_cell hin1.y]; show some (Value.int .i64 (st1.e : Nat)) = _; rw [h0]; rfl))
        | (go_at_call 84; refine (hsa' _ hbs).mono ?_; rintro e w' ⟨rfl, rfl⟩))
      have hinx := hin1
      have hl2 : st1.of.length = st.of.length := hl
      clear hin1 y4 h0
      have o1 := hinx.o
      obtain ⟨go, oc, hov⟩ : ∃ go oc, ov = .slice (some ⟨go, 0, none⟩) st1.of.length oc := by
        rcases o1.2 with ⟨_, h⟩ | ⟨g, cap, cur, h, _⟩
        · omega
        · exact ⟨_, _, h⟩
      rw [hov] at hinx o1
      have y3 : w1.cell? ⟨yb, 3, none⟩ = some (.slice (some ⟨go, 0, none⟩) st1.of.length oc) := by rw [blk_cell hinx.y]; rfl
      have hbx : w1.heap[b]? = some (.cells (exCells op t.pl nm n kv id last site) 82 (0, 0)) := by rw [hinx.b0.block b hb]; exact HXB.out
      have x5 : w1.cell? ⟨b, 5, none⟩ = some (.int .i64 id) := by rw [blk_cell hbx]; rfl
      have z0 : w1.cell? ⟨go, id, none⟩ = some (strV (st1.of[id]'(by omega))) := by rw [o1.cellAt id (by omega), List.getElem?_map, List.getElem?_eq_getElem (by omega)]; rfl
      have z1 : w1.frozen? ⟨go, id, none⟩ = false := o1.frozenAt id
      have HIN : Hid (TyIn w0 w1 yb cls cv nv' tv' (.slice (some ⟨go, 0, none⟩) st1.of.length oc) env st1) := hinx
      have HOV : Hid _ := hov
      have HFR : Hid _ := hg1
      clear hinx o1 hbx hov hg1
      unfold strV at z0
      go_wp2
      go_region
      go_wp2
      go_ret
      have hse := TyIn.setOf HIN.out id ty.txt (w' := (w1.setCell ⟨go, id, none⟩ (.string (bs ty.txt))).drew) rfl rfl rfl rfl
      rw [HFB.out]
      refine ⟨rfl, nv', tv', HFR.out.trans (Fr.set _ _ _ (by rw [HOV.out]; rfl) rfl), ?_⟩
      rw [HOV.out]
      simpa using hse
    · have h0' : ((st1.e : Int) == 0) = false := by rw [beq_eq_false_iff_ne]; omega
      go_enter Tryd.func58, Tryd.ntmps58
      go_wp2_with (first
        | (go_at_call 83; refine hfo.mono ?_; rintro e w1 ⟨rfl, nv', tv', hg1, hin1⟩; have y4 : w1.cell? ⟨yb, 4, none⟩ = some (.int .i64 st1.e) := (by rw [blk_cell hin1.y]; rfl))
        | (go_at_call 84; refine (hsa' _ hbs).mono ?_; rintro e w' ⟨rfl, rfl⟩))
      have hinx := hin1
      have hl2 : st1.of.length = st.of.length := hl
      clear hin1 y4 h0
      have o1 := hinx.o
      obtain ⟨go, oc, hov⟩ : ∃ go oc, ov = .slice (some ⟨go, 0, none⟩) st1.of.length oc := by
        rcases o1.2 with ⟨_, h⟩ | ⟨g, cap, cur, h, _⟩
        · omega
        · exact ⟨_, _, h⟩
      rw [hov] at hinx o1
      have y3 : w1.cell? ⟨yb, 3, none⟩ = some (.slice (some ⟨go, 0, none⟩) st1.of.length oc) := by rw [blk_cell hinx.y]; rfl
      have hbx : w1.heap[b]? = some (.cells (exCells op t.pl nm n kv id last site) 82 (0, 0)) := by rw [hinx.b0.block b hb]; exact HXB.out
      have x5 : w1.cell? ⟨b, 5, none⟩ = some (.int .i64 id) := by rw [blk_cell hbx]; rfl
      have z0 : w1.cell? ⟨go, id, none⟩ = some (strV (st1.of[id]'(by omega))) := by rw [o1.cellAt id (by omega), List.getElem?_map, List.getElem?_eq_getElem (by omega)]; rfl
      have z1 : w1.frozen? ⟨go, id, none⟩ = false := o1.frozenAt id
      have HIN : Hid (TyIn w0 w1 yb cls cv nv' tv' (.slice (some ⟨go, 0, none⟩) st1.of.length oc) env st1) := hinx
      have HOV : Hid _ := hov
      have HFR : Hid _ := hg1
      clear hinx o1 hbx hov hg1
      unfold strV at z0
      go_wp2
      go_region
      go_wp2
      go_ret
      have hse := TyIn.setOf HIN.out id ty.txt (w' := (w1.setCell ⟨go, id, none⟩ (.string (bs ty.txt))).drew) rfl rfl rfl rfl
      rw [HFB.out]
      refine ⟨rfl, nv', tv', HFR.out.trans (Fr.set _ _ _ (by rw [HOV.out]; rfl) rfl), ?_⟩
      rw [HOV.out]
      simpa using hse
end Go.Proofs.YtglkpkmdoohdcaaDoor
