import Derived.Test.YtglkpkmdoohdcaaDoorRs
namespace Go.Proofs.YtglkpkmdoohdcaaDoor
open Go.RowKit

/-- new blocks and draws leave a Typing as it was -/
theorem TyIn.grow {w0 w w' : World} {yb : Nat} {cls : List Nat} {cv nv tv ov : Value} {env : TEnv} {st : TSt} (h : TyIn w0 w yb cls cv nv tv ov env st) (hb : Below w.heap.size w w') : TyIn w0 w' yb cls cv nv tv ov env st :=
  ⟨h.b0.trans (hb.mono h.b0.size), h.hyb, by rw [hb.block yb (blk_lt h.y)]; exact h.y, owns_below h.c hb, owns_below h.n hb, owns_below h.t hb, owns_below h.o hb, h.cy, h.ny, h.ty, h.oy, h.cn, h.ct, h.co, h.nt, h.no, h.to⟩

set_option maxRecDepth 100000 in
set_option maxHeartbeats 1000000 in
theorem form_num (w0 : World) (yb : Nat) (cls : List Nat) (p : Nat) (s : List UInt8) : FormOk w0 yb cls (.num p s) (fun _ _ _ st => (.n, st)) := by
  intro id site b F env st cv nv tv ov w hT hin _ _ _ _ _
  simp only [IsT] at hT
  have hb := blk_lt hT.2
  have x0 : w.cell? ⟨b, 0, none⟩ = some (.string (bs numB)) := by rw [hin.b0.cell (p := ⟨b, 0, none⟩) hb, blk_cell hT.2]; rfl
  have q0 : ((bs numB).toList == [110, 117, 109, 98, 101, 114]) = true := by rw [bs_beq0]; decide
  have hbw : b < w.heap.size := by have := hin.b0.size; omega
  have HIN : Hid _ := hin
  clear hT hin
  show Calls _ _ #[Value.pointer (some ⟨yb, 0, none⟩), Value.pointer (some ⟨b, 0, none⟩)] w _
  go_enter Tryd.func83, Tryd.ntmps83
  go_wp2
  go_ret
  exact ⟨rfl, nv, tv, Fr.below ((Below.refl _ _).alloc (Nat.le_refl _) _) _ _ _ _, HIN.out.grow ((Below.refl _ _).alloc (Nat.le_refl _) _)⟩

theorem look_nil (s : List UInt8) : look [] s = none := rfl
theorem look_snoc (env : TEnv) (x : List UInt8 × Ty) (s : List UInt8) : look (env ++ [x]) s = if x.1 == s then some x.2 else look env s := by
  unfold look
  rw [List.reverse_append, List.reverse_singleton, List.singleton_append, List.find?_cons]
  cases h : (x.1 == s) <;> simp
theorem look_take (env : TEnv) (j : Nat) (hj : j < env.length) (s : List UInt8) : look (env.take (j + 1)) s = if (env[j].1 == s) then some env[j].2 else look (env.take j) s := by
  rw [List.take_succ_eq_append_getElem hj, look_snoc]

def nameF (p : Nat) (s : List UInt8) (env : TEnv) (st : TSt) : Ty × TSt := match look env s with
  | some t => (t, st)
  | none => (.n, errS st 4 p)
theorem nameF_none {p : Nat} {s : List UInt8} {env : TEnv} {st : TSt} (h : look env s = none) : nameF p s env st = (.n, errS st 4 p) := by unfold nameF; rw [h]
theorem nameF_some {p : Nat} {s : List UInt8} {env : TEnv} {st : TSt} {t : Ty} (h : look env s = some t) : nameF p s env st = (t, st) := by unfold nameF; rw [h]

set_option maxRecDepth 100000 in
set_option maxHeartbeats 2000000 in
theorem form_name (w0 : World) (yb : Nat) (cls : List Nat) (p : Nat) (s : List UInt8) : FormOk w0 yb cls (.name p s) (fun _ _ env st => nameF p s env st) := by
  intro id site b F env st cv nv tv ov w hT hin _ _ _ _ henv
  simp only [PT.cnt] at henv
  simp only [IsT] at hT
  have hb := blk_lt hT.2
  have hbw : b < w.heap.size := by have := hin.b0.size; omega
  have hbx : w.heap[b]? = some (.cells (exCells nameB p s 0 (.slice none 0 0) id id site) 82 (0, 0)) := by rw [hin.b0.block b hb]; exact hT.2
  have x0 : w.cell? ⟨b, 0, none⟩ = some (.string (bs nameB)) := by rw [blk_cell hbx]; rfl
  have x2 : w.cell? ⟨b, 2, none⟩ = some (.string (bs s)) := by rw [blk_cell hbx]; rfl
  have q0 : ((bs nameB).toList == [110, 117, 109, 98, 101, 114]) = false := by rw [bs_beq0]; decide
  have q1 : ((bs nameB).toList == [110, 97, 109, 101]) = true := by rw [bs_beq0]; decide
  have hG := hin.toG
  obtain ⟨na, nc, hnv, hna⟩ := hG.shapeN
  obtain ⟨ta, tc, htv, hta⟩ := hG.shapeT
  rw [List.length_map] at hnv htv hna hta
  have hy := hin.y
  have hyl := blk_lt hy
  rw [hnv, htv] at hy
  have y1 : w.cell? ⟨yb, 1, none⟩ = some (.slice na env.length nc) := by rw [blk_cell hy]; rfl
  have y2 : w.cell? ⟨yb, 2, none⟩ = some (.slice ta env.length tc) := by rw [blk_cell hy]; rfl
  have HIN : Hid _ := hin
  have HNV : Hid _ := hnv
  have HTV : Hid _ := htv
  have HBX : Hid _ := hbx
  have HNA : Hid _ := hna
  have HTA : Hid _ := hta
  have hne : b ≠ yb := by have := hin.hyb; omega
  clear hT hin hG hnv htv hy hbx hna hta
  show Calls _ _ #[Value.pointer (some ⟨yb, 0, none⟩), Value.pointer (some ⟨b, 0, none⟩)] w _
  go_enter Tryd.func83, Tryd.ntmps83
  go_wp2
  go_loopw [6] (fun i wr => ∃ (j m : Nat), j ≤ env.length ∧ i = .int .i64 ((j : Int) - 1) ∧ wr = (w.alloc (.cells #[.string ⟨#[]⟩, .string ⟨#[]⟩, .string ⟨#[]⟩] 104)).drewN m ∧ look env s = look (env.take j) s) (fun i _ => (intOf i + 1).toNat)
  case atStart => exact ⟨env.length, 0, by omega, rfl, rfl, by rw [List.take_length]⟩
  case round =>
    obtain ⟨j, m, hj, rfl, rfl, hl⟩ := hrel
    have HL : Hid _ := hl
    clear hl
    by_cases hj0 : j = 0
    · subst hj0
      have her := fun (o : Obj) (m : Nat) => err_any ((w.alloc o).drewN m) yb b cv nv tv ov (.slice none 0 0) st.e st.at_ 4 nameB s p 0 id id site hne (blk_alloc o HIN.out.y) (blk_alloc o HBX.out)
      unfold ptr at her
      go_wp2_with (go_at_call 85; refine (her _ _).mono ?_; rintro e w2 ⟨rfl, hg1, hy1⟩)
      go_ret
      have e : look env s = none := by rw [HL.out]; rfl
      rw [nameF_none e]
      refine ⟨rfl, nv, tv, (Fr.below (below_box w _ m) _ _ _ _).trans (Fr.grown hg1 _ _ _), ?_⟩
      have h := (HIN.out.grow (below_box w _ m)).err hg1 hy1
      unfold errS
      by_cases h0 : st.e = 0
      · rw [if_pos h0, if_pos h0] at h; rw [if_pos h0]; exact h
      · rw [if_neg h0, if_neg h0] at h; rw [if_neg h0]; exact h
    · obtain ⟨k, hk⟩ : ∃ k, j = k + 1 := ⟨j - 1, by omega⟩
      subst hk
      have hkl : k < env.length := by omega
      obtain ⟨gn, hgn⟩ := HNA.out (by omega)
      obtain ⟨gt, hgt⟩ := HTA.out (by omega)
      have hcn : w.cell? ⟨gn, k, none⟩ = some (.string (bs env[k].1)) := by
        have h := HIN.out.n
        rw [HNV.out, hgn] at h
        rw [h.cellAt k (by omega), List.getElem?_map, List.getElem?_eq_getElem hkl]; rfl
      have hct : w.cell? ⟨gt, k, none⟩ = some (.string (bs env[k].2.txt)) := by
        have h := HIN.out.t
        rw [HTV.out, hgt] at h
        rw [h.cellAt k (by omega), List.getElem?_map, List.getElem?_eq_getElem hkl]; rfl
      have hgnw : gn < w.heap.size := World.block_lt_of_cell? _ _ hcn
      have hgtw : gt < w.heap.size := World.block_lt_of_cell? _ _ hct
      rw [hgn] at y1
      rw [hgt] at y2
      have ek : ((k + 1 : Nat) : Int) - 1 = (k : Int) := by omega
      rw [ek]
      have hlt := look_take env k hkl s
      by_cases hs : (env[k].1 == s) = true
      · rw [if_pos hs] at hlt
        have qs : ((bs env[k].1).toList == (bs s).toList) = true := by rw [bs_beq0, Lib.toList_data]; exact hs
        have HR : Hid (look env s = some env[k].2) := HL.out.trans hlt
        clear hlt hs hgn hgt ek
        go_wp2
        go_quiet (fail)
        go_wp2
        go_ret
        rw [nameF_some HR.out]
        exact ⟨rfl, nv, tv, Fr.below (below_box w _ _) _ _ _ _, HIN.out.grow (below_box w _ _)⟩
      · have hs' : (env[k].1 == s) = false := by simpa using hs
        rw [if_neg hs] at hlt
        have qs : ((bs env[k].1).toList == (bs s).toList) = false := by rw [bs_beq0, Lib.toList_data]; exact hs'
        have HR : Hid (look env s = look (env.take k) s) := HL.out.trans hlt
        clear hlt hs hs' hgn hgt ek
        go_wp2
        go_quiet (fail)
        go_wp2
        go_roundw
        case rel => exact ⟨k, _, by omega, by go_num, rfl, HR.out⟩
        case measure => simp [intOf]
end Go.Proofs.YtglkpkmdoohdcaaDoor
