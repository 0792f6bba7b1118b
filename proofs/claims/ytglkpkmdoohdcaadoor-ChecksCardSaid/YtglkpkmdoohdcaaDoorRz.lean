import Derived.Test.YtglkpkmdoohdcaaDoorRy
import Derived.Test.YtglkpkmdoohdcaaDoorRm
namespace Go.Proofs.YtglkpkmdoohdcaaDoor
open Go.RowKit

theorem isT_last {w : World} {F : Nat → Prop} {t : PT} {id site b : Nat} (h : IsT w F t id site b) : ∃ op nm n kv, w.heap[b]? = some (.cells (exCells op t.pl nm n kv id (id + (t.cnt - 1)) site) 82 (0, 0)) := by
  cases t with
  | num p s => simp only [IsT] at h; exact ⟨_, _, _, _, h.2⟩
  | name p s => simp only [IsT] at h; exact ⟨_, _, _, _, h.2⟩
  | node p k nm rg kids =>
    simp only [IsT] at h
    obtain ⟨_, kv, bl, h1, _⟩ := h
    have e : id + ((PT.node p k nm rg kids).cnt - 1) = id + cntL kids := by simp only [PT.cnt]; omega
    rw [e]; exact ⟨_, _, _, _, h1⟩

theorem made_strs (n : Nat) : (madeCells #[Value.string ⟨#[]⟩] n).toList = (List.replicate n ([] : List UInt8)).map strV := by
  apply List.ext_getElem
  · simp [madeCells]
  · intro i h1 h2
    simp [madeCells, Nat.mod_one, strV, bs]

def st0 (t : PT) : TSt := ⟨0, 0, List.replicate t.cnt []⟩

set_option maxRecDepth 100000 in
set_option maxHeartbeats 2000000 in
theorem Types_any {w0 : World} {cls : List Nat} (hc100 : ∀ x ∈ cls, x < 100) (hcl : cls.length ≤ 9000) (t : PT) (hwf : t.wf) (b : Nat) (F : Nat → Prop) (cv : Value) (w : World) (hT : IsT w0 F t 0 0 b) (hcnt : t.cnt ≤ 9000) (hb0 : Below w0.heap.size w0 w)
    (hc : w.ownsRow w0.heap.size 3 1 cv cls.length (cls.map fun (k : Nat) => Value.int .i64 k)) (hprs : t.prs ≤ cls.length) (hcs : ∃ a n c, cv = .slice a n c) :
    Calls Tryd.prog 34 #[ptr b, cv] w fun v w' => ∃ yb nv tv ov, v = .returned (ptr yb) ∧ w.heap.size ≤ w'.heap.size ∧ Below w.heap.size w w' ∧ TyIn w0 w' yb cls cv nv tv ov [] (tyFind cls t 0 0 [] (st0 t)).2 := by
  obtain ⟨i0, hi, hz0, hz1, hz2⟩ := info_parts Tryd.infoStr
  have HI : Hid _ := hi
  have HZ0 : Hid _ := hz0
  have HZ1 : Hid _ := hz1
  have HZ2 : Hid _ := hz2
  clear hi hz0 hz1 hz2
  obtain ⟨ca, cn, cc, rfl⟩ := hcs
  obtain ⟨op, nm, n, kv, hblk⟩ := isT_last hT
  have hcp := cnt_pos t
  have hb := blk_lt hblk
  have hw0 := hb0.size
  have hbw : b < w.heap.size := by omega
  have x6 : w.cell? ⟨b, 6, none⟩ = some (.int .i64 (t.cnt - 1 : Nat)) := by rw [hb0.cell (p := ⟨b, 6, none⟩) hb, blk_cell hblk, Nat.zero_add]; rfl
  have hcg : ∀ g, (Value.slice ca cn cc).ownBlock = some g → w0.heap.size ≤ g ∧ g < w.heap.size := fun g hg => hc.lt g hg
  have HC : Hid (w.ownsRow w0.heap.size 3 1 (.slice ca cn cc) cls.length (cls.map fun (k : Nat) => Value.int .i64 k)) := hc
  have HT : Hid _ := hT
  have HB0 : Hid _ := hb0
  clear hblk hc hT hb0
  show Calls _ _ #[Value.pointer (some ⟨b, 0, none⟩), _] w _
  go_enter Tryd.func34, Tryd.ntmps34
  go_wp2_with (at_make; go_must (refine wpList_make_full _ rfl (.tmp 11) (.tmp 11) 84 rfl w.heap.size 9 i0 _ 1 Tryd.undStrs HI.out HZ0.out HZ1.out .i64 .i64 _ _ t.cnt rfl rfl ?l1 ?l2 ?m1 ?m2 ?m3 ?_))
  case l1 => omega
  case l2 => omega
  case m1 => rw [HZ2.out]; omega
  case m2 => unfold maxLen; omega
  case m3 => omega
  intro w2 ho2 hg2
  rw [made_strs] at ho2
  have hb2 : Below w.heap.size w w2 := ⟨hg2.os, hg2.tape, hg2.output, hg2.size, fun k hk => hg2.block k hk (by simp)⟩
  have hl2 : w.heap.size < w2.heap.size := (ho2.lt w.heap.size rfl).2
  have hin : TyIn w0 (w2.alloc (.cells (tyCells (.slice ca cn cc) (.slice none 0 0) (.slice none 0 0) (.slice (some ⟨w.heap.size, 0, none⟩) t.cnt t.cnt) 0 0) 86)) w2.heap.size cls (.slice ca cn cc) (.slice none 0 0) (.slice none 0 0) (.slice (some ⟨w.heap.size, 0, none⟩) t.cnt t.cnt) [] (st0 t) := by
    have hbA : Below w2.heap.size w2 (w2.alloc (.cells (tyCells (.slice ca cn cc) (.slice none 0 0) (.slice none 0 0) (.slice (some ⟨w.heap.size, 0, none⟩) t.cnt t.cnt) 0 0) 86)) := (Below.refl _ _).alloc (Nat.le_refl _) _
    refine ⟨(HB0.out.trans (hb2.mono hw0)).trans (hbA.mono (by omega)), by omega, blk_new _ _, owns_below (owns_below HC.out hb2) hbA, World.ownsRow_nil _ _ _ _, World.ownsRow_nil _ _ _ _, ?_, ?_, by simp [Value.ownBlock], by simp [Value.ownBlock], ?_, fun g hg h => by simp [Value.ownBlock] at h, fun g hg h => by simp [Value.ownBlock] at h, ?_, fun g hg => by simp [Value.ownBlock] at hg, fun g hg => by simp [Value.ownBlock] at hg, fun g hg => by simp [Value.ownBlock] at hg⟩
    · have h := owns_base (base' := w0.heap.size) (owns_below ho2 hbA) (fun k hk => by simp only [Value.ownBlock, Option.some.injEq] at hk; omega)
      simp only [st0, List.length_replicate]; exact h
    · intro e; have := (hcg _ e).2; omega
    · simp only [Value.ownBlock, ne_eq, Option.some.injEq]; omega
    · intro g hg h
      simp only [Value.ownBlock, Option.some.injEq] at h
      have := (hcg g hg).2; omega
  have hfo := find_all (w0 := w0) (yb := w2.heap.size) hc100 hcl t hwf 0 0 b F [] (st0 t) _ _ _ _ _ HT.out hin (by simp [st0]) (by omega) (by simp) (by simp) (by simp; omega)
  unfold ptr at hfo
  have HB2 : Hid _ := hb2
  clear ho2 hg2 hin hb2
  go_wp2_with fail
  refine hfo.mono ?_
  rintro e w3 ⟨rfl, nv, tv, hfr, hin3⟩
  have hs3 : w.heap.size ≤ w3.heap.size := by have := hfr.size; simp at this; omega
  have hbel : Below w.heap.size w w3 := by
    refine ⟨hin3.b0.os.trans HB0.out.os.symm, hin3.b0.tape.trans HB0.out.tape.symm, hin3.b0.output.trans HB0.out.output.symm, hs3, fun k hk => ?_⟩
    rw [hfr.blk k (by simp; omega) (by omega) (by simp [Value.ownBlock]) (by simp [Value.ownBlock]) (by simp only [Value.ownBlock, ne_eq, Option.some.injEq]; omega), Below.heap_alloc _ _ _ (by omega), HB2.out.block k hk]
  have HIN3 : Hid _ := hin3
  have HBEL : Hid _ := hbel
  clear hfr hin3 hbel hfo
  go_wp2
  go_ret
  exact ⟨w2.heap.size, nv, tv, _, rfl, hs3, HBEL.out, HIN3.out⟩
end Go.Proofs.YtglkpkmdoohdcaaDoor
