import Derived.Test.YtglkpkmdoohdcaaDoorX8
namespace Go.Proofs.YtglkpkmdoohdcaaDoor
open Go.RowKit

theorem nrL_len (n : NR) : (nrL n).length = 10 := rfl
theorem flat10 : ∀ (l : List NR) (i j : Nat), j < 10 → (l.flatMap nrL)[i * 10 + j]? = (l[i]?).bind (fun n => (nrL n)[j]?)
  | [], i, j, _ => by simp
  | x :: l, 0, j, hj => by
    rw [List.flatMap_cons, List.getElem?_append_left (by rw [nrL_len]; omega)]
    simp
  | x :: l, i + 1, j, hj => by
    have := flat10 l i j hj
    rw [List.flatMap_cons, show (i + 1) * 10 + j = (nrL x).length + (i * 10 + j) from by rw [nrL_len]; omega, List.getElem?_append_right (by omega), Nat.add_sub_cancel_left]
    simpa using this

theorem slice_of {w : World} {base : Nat} {e : TypeId} {size : Nat} {v : Value} {n : Nat} {xs : List Value} (h : w.ownsRow base e size v n xs) (hn : 0 < n) : ∃ g cap, v = .slice (some ⟨g, 0, none⟩) n cap := by
  rcases h.2 with ⟨_, h2⟩ | ⟨g, cap, cur, h1, _⟩
  · omega
  · exact ⟨_, _, h1⟩
theorem slice_any {w : World} {base : Nat} {e : TypeId} {size : Nat} {v : Value} {n : Nat} {xs : List Value} (h : w.ownsRow base e size v n xs) : ∃ a cap, v = .slice a n cap := by
  rcases h.2 with ⟨h1, h2⟩ | ⟨g, cap, cur, h1, _⟩
  · exact ⟨none, 0, by rw [h1, h2]⟩
  · exact ⟨_, _, h1⟩

set_option maxRecDepth 100000 in
set_option maxHeartbeats 2000000 in
theorem Len_any (w : World) (nv ov : Value) (ns : List NR) (op : List Int) (h : TreeIn w nv ov ns op) : Calls Tryd.prog 50 #[treeV nv ov] w fun v w' => v = .returned (.int .i64 ns.length) ∧ Below w.heap.size w w' := by
  obtain ⟨a, cap, rfl⟩ := slice_any h.nd
  obtain ⟨a', cap', rfl⟩ := slice_any h.op
  clear h
  unfold treeV
  go_enter Tryd.func50, Tryd.ntmps50
  go_wp2
  go_ret
  exact ⟨rfl, (Below.refl _ _).alloc (Nat.le_refl _) _⟩

theorem node_cells {w : World} {ns : List NR} {g cap : Nat} (h : w.ownsRow 0 130 10 (.slice (some ⟨g, 0, none⟩) ns.length cap) ns.length (ns.flatMap nrL)) (k : Nat) (hk : k < ns.length) :
    w.cell? ⟨g, k * 10, none⟩ = some (.int .i64 ns[k].form) ∧ w.cell? ⟨g, k * 10 + 1, none⟩ = some (.int .i64 ns[k].at_) ∧ w.cell? ⟨g, k * 10 + 2, none⟩ = some (.int .i64 ns[k].beh) ∧ w.cell? ⟨g, k * 10 + 3, none⟩ = some (.int .i64 ns[k].num) ∧ w.cell? ⟨g, k * 10 + 4, none⟩ = some (.string (bs ns[k].word)) ∧
    w.cell? ⟨g, k * 10 + 5, none⟩ = some (.int .i64 ns[k].region) ∧ w.cell? ⟨g, k * 10 + 6, none⟩ = some (.int .i64 ns[k].source) ∧ w.cell? ⟨g, k * 10 + 7, none⟩ = some (.int .i64 ns[k].p0) ∧ w.cell? ⟨g, k * 10 + 8, none⟩ = some (.int .i64 ns[k].p1) ∧ w.cell? ⟨g, k * 10 + 9, none⟩ = some (.int .i64 ns[k].p2) := by
  have key : ∀ j, j < 10 → w.cell? ⟨g, k * 10 + j, none⟩ = (nrL ns[k])[j]? := by
    intro j hj
    rw [h.cellAt (k * 10 + j) (by omega), flat10 ns k j hj, List.getElem?_eq_getElem hk]; rfl
  exact ⟨key 0 (by omega), key 1 (by omega), key 2 (by omega), key 3 (by omega), key 4 (by omega), key 5 (by omega), key 6 (by omega), key 7 (by omega), key 8 (by omega), key 9 (by omega)⟩

set_option maxRecDepth 100000 in
set_option maxHeartbeats 2000000 in
theorem Node_in (w : World) (nv ov : Value) (ns : List NR) (op : List Int) (h : TreeIn w nv ov ns op) (k : Nat) (hk : k < ns.length) (hl : ns.length ≤ 9000) : Calls Tryd.prog 55 #[treeV nv ov, .int .i64 k] w fun v w' => v = .returned (nrVal ns[k]) ∧ Below w.heap.size w w' := by
  obtain ⟨g, cap, rfl⟩ := slice_of h.nd (by omega)
  obtain ⟨a', cap', rfl⟩ := slice_any h.op
  obtain ⟨c0, c1, c2, c3, c4, c5, c6, c7, c8, c9⟩ := node_cells h.nd k hk
  have hg : g < w.heap.size := (h.nd.lt g rfl).2
  generalize ns[k] = n at *
  generalize ns.length = m at *
  clear h
  unfold treeV nrVal
  go_enter Tryd.func55, Tryd.ntmps55
  go_wp2
  refine bodyPost_ret (v := .agg #[.int .i64 n.form, .int .i64 n.at_, .int .i64 n.beh, .int .i64 n.num, .string (bs n.word), .int .i64 n.region, .int .i64 n.source, .int .i64 n.p0, .int .i64 n.p1, .int .i64 n.p2]) (by simp [results, Tryd.results55, go_sem]) rfl ⟨rfl, ((Below.refl _ _).alloc (Nat.le_refl _) _).alloc (by simp) _⟩

theorem below2d {w w2 : World} {A B : Obj} (hb : Below ((w.alloc A).alloc B).drew.heap.size ((w.alloc A).alloc B).drew w2) : Below w.heap.size w w2 := by
  have h1 : Below w.heap.size w ((w.alloc A).alloc B).drew := (((Below.refl _ w).alloc (Nat.le_refl _) A).alloc (by simp) B).trans ⟨rfl, rfl, rfl, Nat.le_refl _, fun _ _ => rfl⟩
  exact h1.trans (hb.mono (by show w.heap.size ≤ ((w.alloc A).alloc B).heap.size; simp; omega))

theorem open_cell {w : World} {op : List Int} {g cap : Nat} (h : w.ownsRow 0 3 1 (.slice (some ⟨g, 0, none⟩) op.length cap) op.length (op.map intV)) (k : Nat) (hk : k < op.length) : w.cell? ⟨g, k, none⟩ = some (.int .i64 op[k]) := by
  rw [h.cellAt k (by omega), List.getElem?_map, List.getElem?_eq_getElem hk]; rfl

set_option maxRecDepth 100000 in
set_option maxHeartbeats 4000000 in
theorem Opened_in (w : World) (nv ov : Value) (ns : List NR) (op : List Int) (h : TreeIn w nv ov ns op) (k i : Nat) (hk : k < op.length) (hi : i < ns.length) (hki : op[k] = (i : Int)) (hl : ns.length ≤ 9000) (hl2 : op.length ≤ 60000) : Calls Tryd.prog 76 #[treeV nv ov, .int .i64 k] w fun v w' => v = .returned (nrVal ns[i]) ∧ Below w.heap.size w w' := by
  have hno := fun (w' : World) (hb : Below w.heap.size w w') => Node_in w' nv ov ns op (h.below hb) i hi hl
  obtain ⟨g0, cap0, rfl⟩ := slice_of h.nd (by omega)
  obtain ⟨g, cap, rfl⟩ := slice_of h.op (by omega)
  have c0 := open_cell h.op k hk
  rw [hki] at c0
  have hg : g < w.heap.size := (h.op.lt g rfl).2
  clear h hki
  generalize ns[i] = n at *
  generalize ns.length = m at *
  generalize op.length = m2 at *
  unfold treeV nrVal at hno
  unfold treeV nrVal
  have HNO : Hid _ := hno
  clear hno
  go_enter Tryd.func76, Tryd.ntmps76
  go_wp2
  go_region_with (go_at_call 55; refine (HNO.out _ ?_).mono ?_; exact (((Below.refl _ w).alloc (Nat.le_refl _) _).alloc (by simp) _).trans ⟨rfl, rfl, rfl, Nat.le_refl _, fun _ _ => rfl⟩; rintro e w2 ⟨rfl, hb2⟩; (have hqn := alloc2_kept hb2; obtain ⟨c0, c1, c2, c3, c4, c5, c6, c7, c8, c9⟩ := cells10 hqn; obtain ⟨f0, f1, f2, f3, f4, f5, f6, f7, f8, f9⟩ := free10 hqn))
  all_goals go_wp2
  all_goals
    have hB := below2d hb2
    refine bodyPost_ret (v := .agg #[.int .i64 n.form, .int .i64 n.at_, .int .i64 n.beh, .int .i64 n.num, .string (bs n.word), .int .i64 n.region, .int .i64 n.source, .int .i64 n.p0, .int .i64 n.p1, .int .i64 n.p2]) (by simp [results, Tryd.results76, go_sem, c0, c1, c2, c3, c4, c5, c6, c7, c8, c9]) rfl ⟨rfl, ((((((((((hB.setCell (p := ⟨w.heap.size + 1, 0, none⟩) (by simp) _).setCell (p := ⟨w.heap.size + 1, 1, none⟩) (by simp) _).setCell (p := ⟨w.heap.size + 1, 2, none⟩) (by simp) _).setCell (p := ⟨w.heap.size + 1, 3, none⟩) (by simp) _).setCell (p := ⟨w.heap.size + 1, 4, none⟩) (by simp) _).setCell (p := ⟨w.heap.size + 1, 5, none⟩) (by simp) _).setCell (p := ⟨w.heap.size + 1, 6, none⟩) (by simp) _).setCell (p := ⟨w.heap.size + 1, 7, none⟩) (by simp) _).setCell (p := ⟨w.heap.size + 1, 8, none⟩) (by simp) _).setCell (p := ⟨w.heap.size + 1, 9, none⟩) (by simp) _)⟩

end Go.Proofs.YtglkpkmdoohdcaaDoor

namespace Go.Proofs.YtglkpkmdoohdcaaDoor
open Go.RowKit

theorem Node_in' (w : World) (nv ov : Value) (ns : List NR) (op : List Int) (h : TreeIn w nv ov ns op) (k : Nat) (n : NR) (hk : ns[k]? = some n) (hl : ns.length ≤ 9000) : Calls Tryd.prog 55 #[treeV nv ov, .int .i64 k] w fun v w' => v = .returned (nrVal n) ∧ Below w.heap.size w w' := by
  obtain ⟨h1, h2⟩ := List.getElem?_eq_some_iff.1 hk
  rw [← h2]; exact Node_in w nv ov ns op h k h1 hl
theorem Opened_in' (w : World) (nv ov : Value) (ns : List NR) (op : List Int) (h : TreeIn w nv ov ns op) (k i : Nat) (n : NR) (hk : op[k]? = some (i : Int)) (hi : ns[i]? = some n) (hl : ns.length ≤ 9000) (hl2 : op.length ≤ 60000) : Calls Tryd.prog 76 #[treeV nv ov, .int .i64 k] w fun v w' => v = .returned (nrVal n) ∧ Below w.heap.size w w' := by
  obtain ⟨h1, h2⟩ := List.getElem?_eq_some_iff.1 hk
  obtain ⟨h3, h4⟩ := List.getElem?_eq_some_iff.1 hi
  rw [← h4]; exact Opened_in w nv ov ns op h k i h1 h3 h2 hl hl2

/-- all that is opened is there -/
def OpOk (ns : List NR) (op : List Int) : Prop := op.length = ns.length ∧ ∀ x ∈ op, 0 ≤ x ∧ x.toNat < ns.length
def manyAns (ns : List NR) (op : List Int) : Nat × Nat := if 100 < (op.filterMap (pairAt ns)).length then (3, ((op.filterMap (pairAt ns))[100]?).getD 0) else (0, 0)

theorem box_cells {w W : World} {a b : Value} {t : TypeId} (h : Below (w.alloc (.cells #[a, b] t)).heap.size (w.alloc (.cells #[a, b] t)) W) : W.cell? ⟨w.heap.size, 0, none⟩ = some a ∧ W.cell? ⟨w.heap.size, 1, none⟩ = some b ∧ w.heap.size < W.heap.size := by
  have hb : W.heap[w.heap.size]? = some (.cells #[a, b] t (0, 0)) := by rw [h.block _ (by simp)]; exact blk_new _ _
  exact ⟨by rw [blk_cell hb]; rfl, by rw [blk_cell hb]; rfl, blk_lt hb⟩

set_option maxRecDepth 100000 in
set_option maxHeartbeats 4000000 in
theorem manyPairs_any (w : World) (nv ov : Value) (ns : List NR) (op : List Int) (h : TreeIn w nv ov ns op) (ho : OpOk ns op) (hl : ns.length ≤ 9000) :
    Calls Tryd.prog 54 #[treeV nv ov] w fun v w' => v = .returned (.tuple #[.int .i64 (manyAns ns op).1, .int .i64 (manyAns ns op).2]) ∧ Below w.heap.size w w' := by
  have hlen := fun (w' : World) (hb : Below w.heap.size w w') => Len_any w' nv ov ns op (h.below hb)
  have hopn := fun (w' : World) (hb : Below w.heap.size w w') (k i : Nat) (n : NR) (hk : op[k]? = some (i : Int)) (hi : ns[i]? = some n) => Opened_in' w' nv ov ns op (h.below hb) k i n hk hi hl (by rw [ho.1]; omega)
  obtain ⟨a0, cap0, e0⟩ := slice_any h.nd
  obtain ⟨a1, cap1, e1⟩ := slice_any h.op
  rw [ho.1] at e1
  obtain ⟨m, hm⟩ : ∃ m, m = ns.length := ⟨_, rfl⟩
  rw [← hm] at e0 e1 hl
  subst e0
  subst e1
  have HO : Hid _ := ho
  have HM : Hid _ := hm
  unfold treeV at hlen hopn
  unfold treeV
  unfold nrVal at hopn
  rw [← hm] at hlen
  have HLEN : Hid _ := hlen
  have HOPN : Hid _ := hopn
  obtain ⟨ans, hans⟩ : ∃ ans, ans = manyAns ns op := ⟨_, rfl⟩
  rw [← hans]
  have HANS : Hid _ := hans
  clear hlen hopn ho h hm hans
  have hBx : Below w.heap.size w (w.alloc (.cells #[.slice a0 m cap0, .slice a1 m cap1] 49)) := (Below.refl _ w).alloc (Nat.le_refl _) _
  have HBX : Hid _ := hBx
  clear hBx
  go_enter Tryd.func54, Tryd.ntmps54
  go_wp2
  go_loopw [4, 5, 6] (fun c i _ wr => ∃ k p : Nat, k ≤ m ∧ i = .int .i64 k ∧ c = .int .i64 p ∧ p ≤ 100 ∧ Hid (p = ((op.take k).filterMap (pairAt ns)).length) ∧ Below (w.alloc (.cells #[.slice a0 m cap0, .slice a1 m cap1] 49)).heap.size (w.alloc (.cells #[.slice a0 m cap0, .slice a1 m cap1] 49)) wr) (fun _ i _ _ => m - (intOf i).toNat)
  case atStart => exact ⟨0, 0, by omega, rfl, rfl, by omega, (by simp : (0 : Nat) = ((op.take 0).filterMap (pairAt ns)).length), Below.refl _ _⟩
  case round =>
    obtain ⟨k, p, hk, rfl, rfl, hp, HP, hbr⟩ := hrel
    obtain ⟨b0, b1, bl⟩ := box_cells hbr
    have hbw : Below w.heap.size w wr := HBX.out.trans (hbr.mono (by simp))
    have hln := HLEN.out wr hbw
    have hws := hbw.size
    have hbrs := hbr.size
    by_cases hlt : k < m
    · have hkl : k < op.length := by have := HO.out.1; have := HM.out; omega
      obtain ⟨x0, x1⟩ := HO.out.2 op[k] (List.getElem_mem hkl)
      obtain ⟨i, hi⟩ : ∃ i : Nat, op[k] = (i : Int) := ⟨op[k].toNat, by omega⟩
      have hil : i < ns.length := by omega
      obtain ⟨n, hn⟩ : ∃ n, ns[i]? = some n := ⟨ns[i], List.getElem?_eq_getElem hil⟩
      have hopk : op[k]? = some (i : Int) := by rw [List.getElem?_eq_getElem hkl, hi]
      have hpa : pairAt ns (i : Int) = if n.form = 4 then some n.at_ else none := by unfold pairAt; rw [Int.toNat_natCast, hn]
      have htk : (op.take (k + 1)).filterMap (pairAt ns) = (op.take k).filterMap (pairAt ns) ++ (pairAt ns (i : Int)).toList := by
        rw [List.take_succ_eq_append_getElem hkl, List.filterMap_append, hi]
        cases hc : pairAt ns (i : Int) <;> simp [hc]
      rw [hpa] at htk
      have HTK : Hid _ := htk
      have HN : Hid _ := hn
      have HOPK : Hid _ := hopk
      clear x0 x1 hi hil hn hopk hpa htk hkl
      go_wp2_with fail
      refine hln.mono ?_
      rintro _ w1 ⟨rfl, hb1⟩
      have hbr1 := hbr.trans (hb1.mono hbrs)
      obtain ⟨d0, d1, dl⟩ := box_cells hbr1
      have hopn := HOPN.out w1 (HBX.out.trans (hbr1.mono (by simp))) k i n HOPK.out HN.out
      have HBR1 : Hid _ := hbr1
      clear hbr1 hb1 hln b0 b1 hbr
      go_wp2_with fail
      refine hopn.mono ?_
      rintro _ w2 ⟨rfl, hb2⟩
      have hbr2 := HBR1.out.trans (hb2.mono HBR1.out.size)
      have HBR2 : Hid _ := hbr2.alloc hbr2.size (nrO n)
      clear hbr2 hb2 hopn HBR1 d0 d1
      unfold nrO nrC at HBR2
      by_cases h4 : n.form = 4
      · have q4 : ((n.form : Int) == 4) = true := ibeq_true (b := 4) h4
        have htk := HTK.out
        rw [if_pos h4] at htk
        have HTK2 : Hid _ := htk
        clear htk HTK h4
        by_cases hpp : p < 100
        · go_wp2
          go_roundw
          case rel => exact ⟨k + 1, p + 1, by omega, by go_num, by go_num, by omega, (by rw [HTK2.out, List.length_append, ← HP.out]; rfl : p + 1 = ((op.take (k + 1)).filterMap (pairAt ns)).length), HBR2.out⟩
          case measure => simp [intOf]; omega
        · have hp100 : p = 100 := by omega
          have HA : Hid (ans = (3, n.at_)) := by
            have e : op.filterMap (pairAt ns) = ((op.take k).filterMap (pairAt ns) ++ [n.at_]) ++ (op.drop (k + 1)).filterMap (pairAt ns) := by
              have h1 := List.take_append_drop (k + 1) op
              conv => lhs; rw [← h1]
              rw [List.filterMap_append, HTK2.out]; rfl
            have hlen : ((op.take k).filterMap (pairAt ns)).length = 100 := by rw [← HP.out]; exact hp100
            have h100 : (op.filterMap (pairAt ns))[100]? = some n.at_ := by
              rw [e, List.getElem?_append_left (by simp [hlen]), List.getElem?_append_right (by omega), hlen]; rfl
            have hbig : 100 < (op.filterMap (pairAt ns)).length := (List.getElem?_eq_some_iff.1 h100).1
            rw [HANS.out]; unfold manyAns; rw [if_pos hbig, h100]; exact rfl
          clear hp100
          go_wp2
          go_quiet (fail)
          go_wp2
          refine bodyPost_ret (v := .tuple #[.int .i64 3, .int .i64 n.at_]) (by simp [results, Tryd.results54, go_sem]) rfl ⟨by rw [HA.out]; rfl, ?_⟩
          exact (HBX.out.trans (HBR2.out.mono (by simp))).trans ⟨rfl, rfl, rfl, Nat.le_refl _, fun _ _ => rfl⟩
      · have q4 : ((n.form : Int) == 4) = false := ibeq_false (b := 4) h4
        have htk := HTK.out
        rw [if_neg h4] at htk
        have HTK2 : Hid _ := htk
        clear htk HTK h4
        go_wp2
        go_roundw
        case rel => exact ⟨k + 1, p, by omega, by go_num, rfl, by omega, (by rw [HTK2.out, Option.toList_none, List.append_nil]; exact HP.out : p = ((op.take (k + 1)).filterMap (pairAt ns)).length), HBR2.out⟩
        case measure => simp [intOf]; omega
    · have HA : Hid (ans = (0, 0)) := by
        have hkm : op.take k = op := List.take_of_length_le (by have := HO.out.1; have := HM.out; omega)
        have h1 := HP.out
        rw [hkm] at h1
        rw [HANS.out]; unfold manyAns; rw [if_neg (by omega)]; exact rfl
      have HBR : Hid _ := hbr
      clear hbr
      go_wp2_with fail
      refine hln.mono ?_
      rintro _ w1 ⟨rfl, hb1⟩
      have HB1 : Hid _ := HBX.out.trans ((HBR.out.trans (hb1.mono hbrs)).mono (by simp))
      clear hb1 hln
      go_wp2
      refine bodyPost_ret (v := .tuple #[.int .i64 0, .int .i64 0]) (by simp [results, Tryd.results54, go_sem]) rfl ⟨by rw [HA.out]; rfl, HB1.out⟩
end Go.Proofs.YtglkpkmdoohdcaaDoor

namespace Go.Proofs.YtglkpkmdoohdcaaDoor
open Go.RowKit

/-- a pair's type in the program's table -/
structure TP where
  r : Nat
  a : Nat
  b : Nat
  sz : Nat
  deriving DecidableEq
def tpL (p : TP) : List Value := [.int .i64 p.r, .int .i64 p.a, .int .i64 p.b, .int .i64 p.sz]
def tpVal (p : TP) : Value := .agg #[.int .i64 p.r, .int .i64 p.a, .int .i64 p.b, .int .i64 p.sz]
def atP (tb : List TP) (k : Nat) : TP := if k = 0 then ⟨0, 0, 0, 0⟩ else (tb[k - 1]?).getD ⟨0, 0, 0, 0⟩

theorem flat4 : ∀ (l : List TP) (i j : Nat), j < 4 → (l.flatMap tpL)[i * 4 + j]? = (l[i]?).bind (fun n => (tpL n)[j]?)
  | [], i, j, _ => by simp
  | x :: l, 0, j, hj => by
    rw [List.flatMap_cons, List.getElem?_append_left (by show 0 * 4 + j < 4; omega)]
    simp
  | x :: l, i + 1, j, hj => by
    have := flat4 l i j hj
    rw [List.flatMap_cons, show (i + 1) * 4 + j = (tpL x).length + (i * 4 + j) from by show _ = 4 + _; omega, List.getElem?_append_right (by omega), Nat.add_sub_cancel_left]
    simpa using this
theorem tp_cells {w : World} {tb : List TP} {g cap : Nat} (h : w.ownsRow 0 173 4 (.slice (some ⟨g, 0, none⟩) tb.length cap) tb.length (tb.flatMap tpL)) (k : Nat) (p : TP) (hk : tb[k]? = some p) :
    w.cell? ⟨g, k * 4, none⟩ = some (.int .i64 p.r) ∧ w.cell? ⟨g, k * 4 + 1, none⟩ = some (.int .i64 p.a) ∧ w.cell? ⟨g, k * 4 + 2, none⟩ = some (.int .i64 p.b) ∧ w.cell? ⟨g, k * 4 + 3, none⟩ = some (.int .i64 p.sz) := by
  have hkl := (List.getElem?_eq_some_iff.1 hk).1
  have key : ∀ j, j < 4 → w.cell? ⟨g, k * 4 + j, none⟩ = (tpL p)[j]? := by
    intro j hj
    rw [h.cellAt (k * 4 + j) (by omega), flat4 tb k j hj, hk]; rfl
  exact ⟨key 0 (by omega), key 1 (by omega), key 2 (by omega), key 3 (by omega)⟩

set_option maxRecDepth 100000 in
set_option maxHeartbeats 4000000 in
theorem At_any (w : World) (cb : Nat) (pv : Value) (tb : List TP) (k : Nat) (hc : w.cell? ⟨cb, 0, none⟩ = some pv) (hr : w.ownsRow 0 173 4 pv tb.length (tb.flatMap tpL)) (hl : tb.length ≤ 9000) (hk : k ≤ 10000) :
    Calls Tryd.prog 99 #[ptr cb, .int .i64 k] w fun v w' => v = .returned (tpVal (atP tb k)) ∧ Below w.heap.size w w' := by
  have hcb := World.block_lt_of_cell? _ _ hc
  show Calls _ _ #[Value.pointer (some ⟨cb, 0, none⟩), _] w _
  by_cases h0 : k = 0 ∨ tb.length < k
  · have e : atP tb k = ⟨0, 0, 0, 0⟩ := by
      unfold atP
      split
      · rfl
      · rw [List.getElem?_eq_none (by omega)]; rfl
    rw [e]
    obtain ⟨a, cap, rfl⟩ := slice_any hr
    generalize tb.length = m at *
    clear hr e
    unfold tpVal
    rcases h0 with h0 | h0
    · have h0' : k < 1 := by omega
      clear h0
      go_enter Tryd.func99, Tryd.ntmps99
      go_wp2
      refine bodyPost_ret (v := .agg #[.int .i64 0, .int .i64 0, .int .i64 0, .int .i64 0]) (by simp [results, Tryd.results99, go_sem]) rfl ⟨rfl, (Below.refl _ _).alloc (Nat.le_refl _) _⟩
    · have h1 : 1 ≤ k := by omega
      go_enter Tryd.func99, Tryd.ntmps99
      go_wp2
      refine bodyPost_ret (v := .agg #[.int .i64 0, .int .i64 0, .int .i64 0, .int .i64 0]) (by simp [results, Tryd.results99, go_sem]) rfl ⟨rfl, (Below.refl _ _).alloc (Nat.le_refl _) _⟩
  · obtain ⟨g, cap, rfl⟩ := slice_of hr (by omega)
    obtain ⟨j, rfl⟩ : ∃ j, k = j + 1 := ⟨k - 1, by omega⟩
    have hj : j < tb.length := by omega
    obtain ⟨p, hp⟩ : ∃ p, tb[j]? = some p := ⟨tb[j], List.getElem?_eq_getElem hj⟩
    have e : atP tb (j + 1) = p := by unfold atP; rw [if_neg (by omega), Nat.add_sub_cancel, hp]; rfl
    rw [e]
    obtain ⟨c0, c1, c2, c3⟩ := tp_cells hr j p hp
    have hg : g < w.heap.size := (hr.lt g rfl).2
    have ej : ((j + 1 : Nat) : Int) = (j : Int) + 1 := by omega
    have ej2 : (j : Int) + 1 - 1 = (j : Int) := by omega
    generalize tb.length = m at *
    clear hr e hp h0
    unfold tpVal
    rw [ej]
    go_enter Tryd.func99, Tryd.ntmps99
    go_wp2
    refine bodyPost_ret (v := .agg #[.int .i64 p.r, .int .i64 p.a, .int .i64 p.b, .int .i64 p.sz]) (by simp [results, Tryd.results99, go_sem]) rfl ⟨rfl, (Below.refl _ _).alloc (Nat.le_refl _) _⟩

/-- how a checker lies in memory -/
structure CIn (cb : Nat) (w : World) (pv tv : Value) (tb : List TP) (K : List Nat) : Prop where
  y : w.heap[cb]? = some (.cells #[pv, tv] 126 (0, 0))
  p : w.ownsRow 0 173 4 pv tb.length (tb.flatMap tpL)
  t : w.ownsRow 0 3 1 tv K.length (K.map fun (k : Nat) => Value.int .i64 k)
  py : pv.ownBlock ≠ some cb
  ty : tv.ownBlock ≠ some cb
  pt : apart pv tv
theorem CIn.below {cb : Nat} {w w' : World} {pv tv : Value} {tb : List TP} {K : List Nat} (h : CIn cb w pv tv tb K) (hb : Below w.heap.size w w') : CIn cb w' pv tv tb K :=
  ⟨by rw [hb.block cb (blk_lt h.y)]; exact h.y, owns_below h.p hb, owns_below h.t hb, h.py, h.ty, h.pt⟩
def knownK (K : List Nat) (i : Int) : Nat := if 0 ≤ i then (K[i.toNat]?).getD 0 else 0

set_option maxRecDepth 100000 in
set_option maxHeartbeats 4000000 in
theorem known_any (w : World) (cb : Nat) (pv tv : Value) (tb : List TP) (K : List Nat) (i : Int) (h : CIn cb w pv tv tb K) (hl : K.length ≤ 9000) (hi : -10 ≤ i ∧ i ≤ 10000) :
    Calls Tryd.prog 78 #[ptr cb, .int .i64 i] w fun v w' => v = .returned (.int .i64 (knownK K i)) ∧ w' = w := by
  have y1 : w.cell? ⟨cb, 1, none⟩ = some tv := by rw [blk_cell h.y]; rfl
  have ht := h.t
  show Calls _ _ #[Value.pointer (some ⟨cb, 0, none⟩), _] w _
  clear h
  by_cases h0 : i < 0
  · have e : knownK K i = 0 := by unfold knownK; rw [if_neg (by omega)]
    rw [e]
    obtain ⟨a, cap, rfl⟩ := slice_any ht
    clear ht e
    go_enter Tryd.func78, Tryd.ntmps78
    go_wp2
    go_ret
    exact ⟨rfl, rfl⟩
  · obtain ⟨j, rfl⟩ : ∃ j : Nat, i = (j : Int) := ⟨i.toNat, by omega⟩
    by_cases hj : j < K.length
    · obtain ⟨g, cap, rfl⟩ := slice_of ht (by omega)
      have e : knownK K (j : Int) = K[j] := by unfold knownK; rw [if_pos (by omega), Int.toNat_natCast, List.getElem?_eq_getElem hj]; rfl
      rw [e]
      have c : w.cell? ⟨g, j, none⟩ = some (.int .i64 K[j]) := by rw [ht.cellAt j (by omega), List.getElem?_map, List.getElem?_eq_getElem hj]; rfl
      generalize K[j] = x at *
      generalize K.length = m at *
      clear ht e
      go_enter Tryd.func78, Tryd.ntmps78
      go_wp2
      go_ret
      exact ⟨rfl, rfl⟩
    · have e : knownK K (j : Int) = 0 := by unfold knownK; rw [if_pos (by omega), Int.toNat_natCast, List.getElem?_eq_none (by omega)]; rfl
      rw [e]
      obtain ⟨a, cap, rfl⟩ := slice_any ht
      clear ht e
      go_enter Tryd.func78, Tryd.ntmps78
      go_wp2
      go_ret
      exact ⟨rfl, rfl⟩
end Go.Proofs.YtglkpkmdoohdcaaDoor
