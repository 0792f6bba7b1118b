import Derived.Test.YtpicaknklgccoaaGreatDoorP15
namespace Go.Proofs.YtpicaknklgccoaaGreatDoor
open Go.RowKit
theorem own_put {w : World} {base g cap : Nat} {E : List Nat} (h : w.ownsRow base 3 1 (.slice (some ⟨g, 0, none⟩) E.length cap) E.length (natVs E)) (k x : Nat) :
  (w.setCell ⟨g, k, none⟩ (.int .i64 x)).ownsRow base 3 1 (.slice (some ⟨g, 0, none⟩) E.length cap) E.length (natVs (E.set k x)) := by
 obtain ⟨h1, h2⟩ := h
 refine ⟨by unfold natVs; simp, Or.inr ?_⟩
 rcases h2 with ⟨h2, _⟩ | ⟨g', cap', cur, hv, hg, hh, hn, hm, hs, ht⟩
 ·cases h2
 ·cases hv
  refine ⟨g, cap, cur.setIfInBounds k (.int .i64 x), rfl, hg, ?_, hn, hm, by simpa using hs, ?_⟩
  ·rw [blk_set hh k _]
  ·unfold natVs at ht ⊢
   rw [List.map_set, ← ht, Array.toList_setIfInBounds, List.take_set]
set_option maxRecDepth 100000 in
set_option maxHeartbeats 4000000 in
theorem follow_any (w : World) (sb base g cap : Nat) (E : List Nat) (b a : Nat) (hc : w.cell? ⟨sb, 2, none⟩ = some (.slice (some ⟨g, 0, none⟩) E.length cap)) (hr : w.ownsRow base 3 1 (.slice (some ⟨g, 0, none⟩) E.length cap) E.length (natVs E)) (hb : b < E.length) :
  Calls Tryz.prog 185 #[ptr sb, .int .i64 b, .int .i64 a] w fun v w' => v = .returned (.tuple #[]) ∧ w' = w.setCell ⟨g, b, none⟩ (.int .i64 a) := by
 have hsb := World.block_lt_of_cell? _ _ hc
 have hgl : g < w.heap.size := (hr.lt g rfl).2
 have c0 := natVs_at hr b hb
 have f0 : w.frozen? ⟨g, b, none⟩ = false := by
  rcases hr.2 with ⟨h2, _⟩ | ⟨g', cap', cur, hv, hg, hh, _⟩
  ·cases h2
  ·cases hv; exact blk_free hh b
 generalize E[b] = x at *
 generalize E.length = m at *
 clear hr
 show Calls _ _ #[Value.pointer (some ⟨sb, 0, none⟩), _, _] w _
 go_enter Tryz.func185, Tryz.ntmps185
 go_wp2
 refine bodyPost_end (v := .tuple #[]) (by simp [results, Tryz.results185, go_sem]) rfl ⟨rfl, rfl⟩
set_option maxRecDepth 100000 in
set_option maxHeartbeats 4000000 in
theorem join_any (w : World) (sb base g cap : Nat) (E : List Nat) (x y : Nat) (hc : w.cell? ⟨sb, 2, none⟩ = some (.slice (some ⟨g, 0, none⟩) E.length cap)) (hr : w.ownsRow base 3 1 (.slice (some ⟨g, 0, none⟩) E.length cap) E.length (natVs E)) (hl : E.length ≤ 9000) (hx : x < E.length) (hy : y < E.length) :
  Calls Tryz.prog 168 #[ptr sb, .int .i64 x, .int .i64 y] w fun v w' => v = .returned (.tuple #[]) ∧ (∃ (k a : Nat), w' = w.setCell ⟨g, k, none⟩ (.int .i64 a)) ∧ w'.ownsRow base 3 1 (.slice (some ⟨g, 0, none⟩) E.length cap) E.length (natVs (joinF E x y)) := by
 have hsb := World.block_lt_of_cell? _ _ hc
 have h1 := first_any w sb base _ E x hc hr hl (by omega)
 have h2 := first_any w sb base _ E y hc hr hl (by omega)
 have hxl := fst_le E x
 have hyl := fst_le E y
 have h3 := fun (b a : Nat) (hb : b < E.length) => follow_any w sb base g cap E b a hc hr hb
 have hjf : joinF E x y = if fst' E x < fst' E y then E.set (fst' E y) (fst' E x) else E.set (fst' E x) (fst' E y) := rfl
 have HO : Hid (∀ k a : Nat, (w.setCell ⟨g, k, none⟩ (.int .i64 a)).ownsRow base 3 1 (.slice (some ⟨g, 0, none⟩) E.length cap) E.length (natVs (E.set k a))) := fun k a => own_put hr k a
 obtain ⟨p, hp⟩ : ∃ p, p = fst' E x := ⟨_, rfl⟩
 obtain ⟨q, hq⟩ : ∃ q, q = fst' E y := ⟨_, rfl⟩
 rw [← hp] at h1 hxl hjf
 rw [← hq] at h2 hyl hjf
 unfold ptr at h1 h2 h3
 have H1 : Hid _ := h1
 have H2 : Hid _ := h2
 have H3 : Hid _ := h3
 have HJ : Hid _ := hjf
 clear h1 h2 h3 hr hp hq hjf
 show Calls _ _ #[Value.pointer (some ⟨sb, 0, none⟩), _, _] w _
 by_cases hlt : p < q
 ·have hz : (p : Int) < (q : Int) := by omega
  go_enter Tryz.func168, Tryz.ntmps168
  go_wp2_with fail
  refine Calls.mono H1.out ?_
  rintro _ _ ⟨rfl, rfl⟩
  go_wp2_with fail
  refine Calls.mono H2.out ?_
  rintro _ _ ⟨rfl, rfl⟩
  go_wp2_with fail
  refine Calls.mono (H3.out q p (by omega)) ?_
  rintro _ _ ⟨rfl, rfl⟩
  go_wp2
  refine bodyPost_end (v := .tuple #[]) (by simp [results, Tryz.results168, go_sem]) rfl ⟨rfl, ⟨q, p, rfl⟩, ?_⟩
  rw [HJ.out, if_pos hlt]; exact HO.out q p
 ·have hz : ¬ (p : Int) < (q : Int) := by omega
  go_enter Tryz.func168, Tryz.ntmps168
  go_wp2_with fail
  refine Calls.mono H1.out ?_
  rintro _ _ ⟨rfl, rfl⟩
  go_wp2_with fail
  refine Calls.mono H2.out ?_
  rintro _ _ ⟨rfl, rfl⟩
  go_wp2_with fail
  refine Calls.mono (H3.out p q (by omega)) ?_
  rintro _ _ ⟨rfl, rfl⟩
  go_wp2
  refine bodyPost_end (v := .tuple #[]) (by simp [results, Tryz.results168, go_sem]) rfl ⟨rfl, ⟨p, q, rfl⟩, ?_⟩
  rw [HJ.out, if_neg hlt]; exact HO.out p q
end Go.Proofs.YtpicaknklgccoaaGreatDoor
