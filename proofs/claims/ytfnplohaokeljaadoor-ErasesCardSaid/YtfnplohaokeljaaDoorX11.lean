import Derived.Test.YtfnplohaokeljaaDoorX10
/- The plain text of a tree (the document's P6), and leaseref's Text without regions and news. -/
namespace Go.Proofs.YtfnplohaokeljaaDoor
open Go.RowKit
open Go.Lib (decDigits)

def pieceT (k : Kw) (nm : List UInt8) (i : Nat) (x : List UInt8) : List UInt8 := (if (k = .let_ ∧ i = 0) ∨ (k = .loop ∧ i = 1) then 32 :: nm else []) ++ (32 :: x)
def joinT (k : Kw) (nm : List UInt8) : Nat → List (List UInt8) → List UInt8
  | _, [] => []
  | i, x :: r => pieceT k nm i x ++ joinT k nm (i + 1) r
theorem joinT_snoc (k : Kw) (nm : List UInt8) (x : List UInt8) : ∀ (l : List (List UInt8)) (i : Nat), joinT k nm i (l ++ [x]) = joinT k nm i l ++ pieceT k nm (i + l.length) x
  | [], i => by simp [joinT]
  | y :: r, i => by
    simp only [List.cons_append, joinT, joinT_snoc k nm x r (i + 1), List.append_assoc, List.length_cons]
    rw [show i + 1 + r.length = i + (r.length + 1) from by omega]
mutual
def PT.ptx : PT → List UInt8
  | .num _ s => decDigits (valueL s).toNat
  | .name _ s => s
  | .node _ k nm _ kids => if k = .new then (ptxL kids).headD [] else 40 :: (k.bytes ++ (joinT k nm 0 (ptxL kids) ++ [41]))
def ptxL : List PT → List (List UInt8)
  | [] => []
  | t :: r => t.ptx :: ptxL r
end
theorem ptxL_len : ∀ ts : List PT, (ptxL ts).length = ts.length
  | [] => rfl
  | _ :: r => by simp [ptxL, ptxL_len r]
theorem ptxL_get : ∀ (ts : List PT) (i : Nat), (ptxL ts)[i]? = (ts[i]?).map PT.ptx
  | [], i => by simp [ptxL]
  | t :: r, 0 => by simp [ptxL]
  | t :: r, i + 1 => by simp [ptxL, ptxL_get r i]

mutual
/-- names and numbers as tokens have them -/
def PT.tame : PT → Prop
  | .num _ s => 0 ≤ valueL s ∧ valueL s ≤ 9999
  | .name _ s => s.length ≤ 9000
  | .node _ _ nm _ kids => nm.length ≤ 9000 ∧ tameL kids
def tameL : List PT → Prop
  | [] => True
  | t :: r => t.tame ∧ tameL r
end
theorem dec_len4 (u : Nat) (h : u ≤ 9999) : (decDigits u).length ≤ 4 := by
  rw [Go.Lib.decDigits]; split
  · simp
  · rw [Go.Lib.decDigits]; split
    · simp
    · rw [Go.Lib.decDigits]; split
      · simp
      · rw [Go.Lib.decDigits]; split
        · simp
        · omega
theorem pieceT_len (k : Kw) (nm : List UInt8) (i : Nat) (x : List UInt8) (h : nm.length ≤ 9000) : (pieceT k nm i x).length ≤ 9002 + x.length := by
  unfold pieceT; split <;> simp <;> omega
mutual
theorem ptx_len : ∀ t : PT, t.tame → t.ptx.length + 9002 ≤ 20000 * t.cnt
  | .num _ s, h => by
    simp only [PT.tame] at h
    simp only [PT.ptx, PT.cnt]
    have := dec_len4 (valueL s).toNat (by omega)
    omega
  | .name _ s, h => by simp only [PT.tame] at h; simp only [PT.ptx, PT.cnt]; omega
  | .node _ k nm _ kids, h => by
    simp only [PT.tame] at h
    have h1 := joinT_len k nm kids 0 h.1 h.2
    have h2 := ptxL_head kids h.2
    have h3 : k.bytes.length ≤ 4 := by cases k <;> decide
    simp only [PT.ptx, PT.cnt]
    split
    · omega
    · simp only [List.length_cons, List.length_append, List.length_nil]; omega
theorem joinT_len (k : Kw) (nm : List UInt8) : ∀ (ts : List PT) (i : Nat), nm.length ≤ 9000 → tameL ts → (joinT k nm i (ptxL ts)).length ≤ 20000 * cntL ts
  | [], _, _, _ => by simp [ptxL, joinT]
  | t :: r, i, h, ht => by
    simp only [tameL] at ht
    have h1 := ptx_len t ht.1
    have h2 := joinT_len k nm r (i + 1) h ht.2
    have h3 := pieceT_len k nm i t.ptx h
    simp only [ptxL, joinT, List.length_append, cntL]
    omega
theorem ptxL_head : ∀ ts : List PT, tameL ts → ((ptxL ts).headD []).length ≤ 20000 * cntL ts
  | [], _ => by simp [ptxL]
  | t :: r, ht => by
    simp only [tameL] at ht
    have h1 := ptx_len t ht.1
    simp only [ptxL, List.headD_cons, cntL]; omega
end
end Go.Proofs.YtfnplohaokeljaaDoor

/- leaseref's Text without regions and news: a tree's plain text. -/
namespace Go.Proofs.YtfnplohaokeljaaDoor
open Go.RowKit
open Go.Lib (decDigits)

/-- strconv.Itoa below 10000, in worlds that came out of w0 -/
def ItoaOk (w0 : World) : Prop := ∀ (n : Nat) (w : World), n ≤ 9999 → Below w0.heap.size w0 w → Calls Tryd.prog 27 #[.int .i64 n] w fun e w' => e = .returned (.string (bs (decDigits n))) ∧ Below w.heap.size w w'

def TextOk (w0 : World) (t : PT) : Prop := ∀ (id site b : Nat) (F : Nat → Prop), t.cnt ≤ 9000 → t.tame → t.wf → IsT w0 F t id site b → ∀ w : World, Below w0.heap.size w0 w →
  Calls Tryd.prog 16 #[ptr b, .slice none 0 0, .slice none 0 0] w fun e w' => e = .returned (.string (bs t.ptx)) ∧ Below w.heap.size w w'

set_option maxRecDepth 100000 in
set_option maxHeartbeats 1000000 in
theorem Text_num (w0 : World) (hit : ItoaOk w0) (p : Nat) (s : List UInt8) : TextOk w0 (.num p s) := by
  intro id site b F hcnt ht hwf hT w hw0
  simp only [IsT] at hT
  simp only [PT.tame] at ht
  have hb := hT.2
  have hbw := blk_lt hb
  have x0 : w.cell? ⟨b, 0, none⟩ = some (.string (bs numB)) := (hw0.cell (p := ⟨b, 0, none⟩) hbw).trans (by rw [blk_cell hb]; rfl)
  obtain ⟨n, hn⟩ : ∃ n : Nat, valueL s = n := ⟨(valueL s).toNat, by omega⟩
  have x3 : w.cell? ⟨b, 3, none⟩ = some (.int .i64 n) := (hw0.cell (p := ⟨b, 3, none⟩) hbw).trans (by rw [blk_cell hb, ← hn]; rfl)
  have hse : ((bs numB).toList == [110, 117, 109, 98, 101, 114]) = true := by rw [bs_beq0]; decide
  have hi := hit n w (by omega) hw0
  simp only [PT.ptx]
  rw [hn] at ht ⊢
  clear hb hT hit hn hw0
  show Calls _ _ #[Value.pointer (some ⟨b, 0, none⟩), _, _] w _
  go_enter Tryd.func16, Tryd.ntmps16
  go_wp2_with (go_at_call 27; refine hi.mono ?_; rintro e w1 ⟨rfl, hb1⟩)
  go_ret
  exact ⟨by simp, hb1⟩

set_option maxRecDepth 100000 in
set_option maxHeartbeats 1000000 in
theorem Text_name (w0 : World) (p : Nat) (s : List UInt8) : TextOk w0 (.name p s) := by
  intro id site b F hcnt ht hwf hT w hw0
  simp only [IsT] at hT
  have hb := hT.2
  have hbw := blk_lt hb
  have x0 : w.cell? ⟨b, 0, none⟩ = some (.string (bs nameB)) := (hw0.cell (p := ⟨b, 0, none⟩) hbw).trans (by rw [blk_cell hb]; rfl)
  have x2 : w.cell? ⟨b, 2, none⟩ = some (.string (bs s)) := (hw0.cell (p := ⟨b, 2, none⟩) hbw).trans (by rw [blk_cell hb]; rfl)
  have hse : ((bs nameB).toList == [110, 117, 109, 98, 101, 114]) = false := by rw [bs_beq0]; decide
  have hse2 : ((bs nameB).toList == [110, 97, 109, 101]) = true := by rw [bs_beq0]; decide
  simp only [PT.ptx]
  clear hb hT hw0 ht hwf hcnt
  show Calls _ _ #[Value.pointer (some ⟨b, 0, none⟩), _, _] w _
  go_enter Tryd.func16, Tryd.ntmps16
  go_wp2_with fail
  go_ret
  exact ⟨rfl, Below.refl _ _⟩

/-- a node's row of parts -/
theorem node_kid {w0 : World} {F : Nat → Prop} {p : Nat} {k : Kw} {nm rg : List UInt8} {kids : List PT} {id site b : Nat} (hT : IsT w0 F (.node p k nm rg kids) id site b) :
    ∃ va vc, (w0.cell? ⟨b, 0, none⟩ = some (.string (bs k.bytes)) ∧ w0.cell? ⟨b, 2, none⟩ = some (.string (bs nm)) ∧ w0.cell? ⟨b, 4, none⟩ = some (.slice va kids.length vc)) ∧ b < w0.heap.size ∧
      ∀ j x, kids[j]? = some x → ∃ gk bx id' site', va = some ⟨gk, 0, none⟩ ∧ gk < w0.heap.size ∧ w0.cell? ⟨gk, j, none⟩ = some (ptr bx) ∧ IsT w0 F x id' site' bx := by
  simp only [IsT] at hT
  obtain ⟨hFb, kv, bl, hb, hF, hkv, hts⟩ := hT
  obtain ⟨va, vc, hvk⟩ : ∃ va vc, kv = .slice va kids.length vc := by
    rcases hkv.2 with ⟨h, h'⟩ | ⟨g, cap, cur, h, _⟩
    · exact ⟨none, 0, by rw [h, h']⟩
    · exact ⟨_, _, h⟩
  have hbw := blk_lt hb
  refine ⟨va, vc, ⟨by rw [blk_cell hb]; rfl, by rw [blk_cell hb]; rfl, by rw [blk_cell hb, ← hvk]; rfl⟩, hbw, ?_⟩
  intro j x hx
  obtain ⟨bx, hbx, hTx⟩ := IsTs.at _ _ _ _ hts j x hx
  have hlt : j < kids.length := (List.getElem?_eq_some_iff.1 hx).1
  obtain ⟨gk, hgk⟩ : ∃ gk, va = some ⟨gk, 0, none⟩ := by
    have h := hkv.2
    rw [hvk] at h
    rcases h with ⟨h, h'⟩ | ⟨g, cap, cur, h, _⟩
    · omega
    · simp only [Value.slice.injEq] at h; exact ⟨_, h.1⟩
  have hkc : w0.cell? ⟨gk, j, none⟩ = some (ptr bx) := by
    have h : w0.ownsRow 0 39 1 (.slice (some ⟨gk, 0, none⟩) kids.length vc) kids.length (bl.map ptr) := by rw [← hgk, ← hvk]; exact hkv
    rw [h.cellAt j (by omega)]; simp [hbx]
  exact ⟨gk, bx, _, _, hgk, World.block_lt_of_cell? _ _ hkc, hkc, hTx⟩

set_option maxRecDepth 100000 in
set_option maxHeartbeats 1000000 in
theorem Text_new (w0 : World) (p : Nat) (nm rg : List UInt8) (x : PT) (ih : TextOk w0 x) : TextOk w0 (.node p .new nm rg [x]) := by
  intro id site b F hcnt ht hwf hT w hw0
  obtain ⟨va, vc, ⟨y0, _, y4⟩, hbw, hk⟩ := node_kid hT
  obtain ⟨gk, bx, id', site', rfl, hg, hc, hTx⟩ := hk 0 x rfl
  have x0 : w.cell? ⟨b, 0, none⟩ = some (.string (bs Kw.new.bytes)) := (hw0.cell (p := ⟨b, 0, none⟩) hbw).trans y0
  have x4 : w.cell? ⟨b, 4, none⟩ = some (.slice (some ⟨gk, 0, none⟩) 1 vc) := (hw0.cell (p := ⟨b, 4, none⟩) hbw).trans y4
  have xc : w.cell? ⟨gk, 0, none⟩ = some (.pointer (some ⟨bx, 0, none⟩)) := (hw0.cell (p := ⟨gk, 0, none⟩) hg).trans hc
  have h1 : ((bs Kw.new.bytes).toList == [110, 117, 109, 98, 101, 114]) = false := by rw [bs_beq0]; decide
  have h2 : ((bs Kw.new.bytes).toList == [110, 97, 109, 101]) = false := by rw [bs_beq0]; decide
  have h3 : ((bs Kw.new.bytes).toList == [110, 101, 119]) = true := by rw [bs_beq0]; decide
  simp only [PT.cnt, cntL] at hcnt
  simp only [PT.tame, tameL] at ht
  simp only [PT.wf, wfL] at hwf
  have hi := ih id' site' bx F (by omega) ht.2.1 hwf.2.1 hTx w hw0
  unfold ptr at hi
  simp only [PT.ptx, ptxL, if_pos, List.headD_cons]
  clear hT hk hw0 ht hwf hcnt y0 y4 hc hTx ih
  show Calls _ _ #[Value.pointer (some ⟨b, 0, none⟩), _, _] w _
  go_enter Tryd.func16, Tryd.ntmps16
  go_wp2_with (go_at_call 16; refine hi.mono ?_; rintro e w1 ⟨rfl, hb1⟩)
  go_ret
  exact ⟨rfl, hb1⟩
end Go.Proofs.YtfnplohaokeljaaDoor
