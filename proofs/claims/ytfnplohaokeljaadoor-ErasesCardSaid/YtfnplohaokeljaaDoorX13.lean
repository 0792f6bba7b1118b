import Derived.Test.YtfnplohaokeljaaDoorX12
import Derived.Shelf.Lay
import Derived.Shelf.LaysM
import Derived.Shelf.Strconv.Itoa3
import Derived.Lib.AppendIntMem
import Derived.Test.YtfnplohaokeljaaDoorX10
import Derived.Test.YtfnplohaokeljaaDoorX1
import Derived.Test.YtfnplohaokeljaaDoorProg
import Derived.WalkKit
import Derived.Test.YtfnplohaokeljaaDoorX2
import Derived.Laws.Tables
/- strconv.Itoa, off the shelf: in every world that came out of one where the table reads as it is laid. -/
namespace Go.Proofs.YtfnplohaokeljaaDoor
open Go.RowKit Go.Shelf Go.Sort
open Go.Lib (decDigits)
shelf_lay LaysM.n171 Nm 171 at Tryd as Tryd.laysM171

theorem itoa_ok (w0 : World) (htab : Lib.TabIs Tryd.prog w0 "internal/strconv.uint64pow10" .u64 Lib.pow10Tab) : ItoaOk w0 := by
  intro n w hn hb
  refine (Any.strconv_Itoa Tryd.laysM171 (n : Int) (by omega) (by omega) w (Lib.tabBelow_of_tabIs htab w hb)).mono ?_
  rintro e w' ⟨rfl, k, os, rfl⟩
  refine ⟨?_, Lib.below_grow _ _ (Nat.le_refl _) k os⟩
  have e1 : Lib.itoa (n : Int) = decDigits n := by
    unfold Lib.itoa; rw [if_neg (by omega)]; rfl
  rw [e1]; rfl
end Go.Proofs.YtfnplohaokeljaaDoor

/- what tokens the tree of a text holds; leaseref's Erase. -/
namespace Go.Proofs.YtfnplohaokeljaaDoor
open Go.RowKit
open Go.Lib (decDigits)

theorem run_memT (lo hi : Int) : ∀ (l : List UInt8) (c : UInt8), c ∈ l.take (run lo hi l) → inB lo hi c = true
  | [], c, h => by simp at h
  | d :: r, c, h => by
    simp only [run] at h
    split at h
    · rename_i hd
      rw [List.take_succ_cons, List.mem_cons] at h
      rcases h with h | h
      · rw [h]; exact hd
      · exact run_memT lo hi r c h
    · simp at h
theorem dig_fold : ∀ (l : List UInt8) (a : Int), (∀ c ∈ l, inB 48 57 c = true) → 0 ≤ a →
    0 ≤ l.foldl (fun n c => if c = 35 then n else 10 * n + (c.toNat : Int) - 48) a ∧ l.foldl (fun n c => if c = 35 then n else 10 * n + (c.toNat : Int) - 48) a ≤ (a + 1) * ((10 ^ l.length : Nat) : Int) - 1
  | [], a, _, h => by simp; omega
  | c :: r, a, hd, h => by
    have hc := hd c (by simp)
    simp only [inB, Bool.and_eq_true, decide_eq_true_eq] at hc
    have h35 : c ≠ 35 := by intro e; subst e; simp at hc
    have ih := dig_fold r (10 * a + (c.toNat : Int) - 48) (fun x hx => hd x (by simp [hx])) (by omega)
    simp only [List.foldl_cons, if_neg h35, List.length_cons]
    refine ⟨ih.1, Int.le_trans ih.2 ?_⟩
    have e : ((10 ^ (r.length + 1) : Nat) : Int) = 10 * ((10 ^ r.length : Nat) : Int) := by rw [Nat.pow_succ]; omega
    rw [e]
    have hp : (0 : Int) ≤ ((10 ^ r.length : Nat) : Int) := Int.natCast_nonneg _
    have h2 : (10 * a + (c.toNat : Int) - 48 + 1) ≤ (a + 1) * 10 := by omega
    have h3 := Int.mul_le_mul_of_nonneg_right h2 hp
    rw [Int.mul_assoc] at h3
    omega

def TkTame (t : Tk) : Prop := (t.c = .num → 0 ≤ valueL t.s ∧ valueL t.s ≤ 9999) ∧ (t.c = .nam → t.s.length ≤ 9000)
theorem tok_tame (l : List UInt8) : ((tokenOf l).2 = .num → 0 ≤ valueL (l.take (tokenOf l).1) ∧ valueL (l.take (tokenOf l).1) ≤ 9999) ∧ ((tokenOf l).2 = .nam → (tokenOf l).1 ≤ 9000) := by
  unfold tokenOf
  split
  · refine ⟨fun h => ?_, fun h => ?_⟩
    · simp only [wordCl] at h
      split at h
      · simp at h
      · split at h <;> simp at h
    · simp only [wordCl] at h
      split at h
      · simp at h
      · split at h
        · simp only; omega
        · simp at h
  · split
    · refine ⟨fun h => ?_, fun h => ?_⟩
      · simp only at h
        split at h
        · rename_i hn
          simp only [numeralB, Bool.and_eq_true, decide_eq_true_eq] at hn
          have hf := dig_fold (l.take (run 48 57 l)) 0 (fun c hc => run_memT 48 57 l c hc) (by omega)
          have hp : 10 ^ (l.take (run 48 57 l)).length ≤ 10 ^ 4 := Nat.pow_le_pow_right (by omega) hn.1.2
          unfold valueL
          simp only
          omega
        · simp at h
      · simp only at h
        split at h <;> simp at h
    · split
      · simp
      · split
        · refine ⟨fun h => ?_, fun h => ?_⟩ <;> (simp only at h; split at h <;> simp at h)
        · refine ⟨fun h => ?_, fun _ => by simp⟩
          simp only at h
          split at h
          · simp at h
          · split at h <;> simp at h
theorem tokens_tame (l : List UInt8) : ∀ t ∈ tokens l, TkTame t := by
  intro t ht
  obtain ⟨l', _, hs, hc⟩ := toks_mem _ _ _ t ht
  have h := tok_tame l'
  unfold TkTame
  rw [hs, hc]
  exact ⟨h.1, fun e => by have := h.2 e; simp; omega⟩

mutual
theorem PE.tame {placed : Bool} : ∀ {l : List Tk} {e : PT} {r : List Tk}, PE placed l e r → (∀ t ∈ l, TkTame t) → e.tame ∧ ∀ t ∈ r, TkTame t
  | _, _, _, .num (t := t) h, ha => ⟨by simp only [PT.tame]; exact (ha t (by simp)).1 h, fun x hx => ha x (by simp [hx])⟩
  | _, _, _, .name (t := t) h, ha => ⟨by simp only [PT.tame]; exact (ha t (by simp)).2 h, fun x hx => ha x (by simp [hx])⟩
  | _, _, _, .node _ _ _ h4, ha => by
    have h := PW.tame h4 (fun x hx => ha x (by simp [hx]))
    exact ⟨by simp only [PT.tame]; exact ⟨h.1, h.2.1⟩, h.2.2⟩
theorem PW.tame {placed : Bool} : ∀ {ws : List Wt} {l : List Tk} {nm rg : List UInt8} {kids : List PT} {r : List Tk}, PW placed ws l nm rg kids r → (∀ t ∈ l, TkTame t) → nm.length ≤ 9000 ∧ tameL kids ∧ ∀ t ∈ r, TkTame t
  | _, _, _, _, _, _, .nil, ha => ⟨by simp, by simp [tameL], ha⟩
  | _, _, _, _, _, _, .close _ h1, ha => PW.tame h1 (fun x hx => ha x (by simp [hx]))
  | _, _, _, _, _, _, .name (t := t) h h1, ha => by
    have h' := PW.tame h1 (fun x hx => ha x (by simp [hx]))
    exact ⟨(ha t (by simp)).2 h, h'.2⟩
  | _, _, _, _, _, _, .region _ h1, ha => PW.tame h1 (fun x hx => ha x (by simp [hx]))
  | _, _, _, _, _, _, .e h0 h1, ha => by
    have a := PE.tame h0 ha
    have b := PW.tame h1 a.2
    exact ⟨b.1, by simp only [tameL]; exact ⟨a.1, b.2.1⟩, b.2.2⟩
end
end Go.Proofs.YtfnplohaokeljaaDoor

namespace Go.Proofs.YtfnplohaokeljaaDoor
open Go.RowKit

theorem Tryd.infoInt : (Tryd.prog.info? 3).map (fun i => (i.zero, i.size, i.bytes)) = some (some (.int .i64 0), 1, 8) := by kernel_rfl
theorem Tryd.undInts : Tryd.prog.underlying 34 = some (.slice 3) := by kernel_rfl
end Go.Proofs.YtfnplohaokeljaaDoor

namespace Go.Proofs.YtfnplohaokeljaaDoor
open Go.RowKit


set_option maxHeartbeats 400000 in
theorem Study_long (s : ByteArray) (w : World) (hs : 3000 < s.size) (hm : s.size ≤ maxLen) :
    Calls Tryd.prog 11 #[.string s, .bool false] w fun v w' => v = .returned (.tuple #[.pointer none, .pointer none, .int .i64 1, .int .i64 0]) ∧ Below w.heap.size w w' := by
  unfold maxLen at hm
  go_enter Tryd.func11, Tryd.ntmps11
  go_wp2
  refine bodyPost_ret (v := .tuple #[.pointer none, .pointer none, .int .i64 1, .int .i64 0]) (by simp [results, Tryd.results11, go_sem]) rfl ⟨rfl, Below.refl _ _⟩

set_option maxHeartbeats 400000 in
theorem Study_form (s : ByteArray) (w : World) (hs : s.size ≤ 3000) (q : Nat) (hq : formOf false s.data.toList = some q) :
    Calls Tryd.prog 11 #[.string s, .bool false] w fun v w' => v = .returned (.tuple #[.pointer none, .pointer none, .int .i64 2, .int .i64 q]) ∧ Below w.heap.size w w' := by
  have hf := fun w => Form_any s false w (by omega)
  rw [hq] at hf
  simp only [formInt] at hf
  go_enter Tryd.func11, Tryd.ntmps11
  go_wp2_with (go_at_call 14; refine (hf _).mono ?_; rintro e w1 ⟨rfl, hb1⟩)
  refine bodyPost_ret (v := .tuple #[.pointer none, .pointer none, .int .i64 2, .int .i64 q]) (by simp [results, Tryd.results11, go_sem]) rfl ⟨rfl, hb1⟩

theorem isRec_cells {w : World} {b : Nat} {r : Rec} (h : isRec w b r) : w.cell? ⟨b, 1, none⟩ = some (.int .i64 r.p) := by
  obtain ⟨kv, h⟩ := h
  rw [blk_cell h]; rfl

theorem prl_at (e : PT) (r : Rec) (j : Nat) (hr : r ∈ e.recs 0 0) (hp : r.isPair = true) (hs : r.site = j) : (e.prl[j]?).map (·.1) = some r.p := by
  obtain ⟨_, _, rg, h, _⟩ := (recs_pairs e 0 0).2.1 r hr hp
  rw [hs, Nat.sub_zero] at h
  rw [h]; rfl

theorem Study_len {s : ByteArray} {placed : Bool} {e : PT} (hp : PE placed (tokens s.data.toList) e []) : e.cnt ≤ s.size := by
  have h1 := hp.used.1
  have h2 := toks_len s.data.toList.length 0 s.data.toList
  rw [size_list] at h2
  unfold tokens at h1
  rw [size_list] at h1
  simp at h1
  omega

set_option maxRecDepth 100000 in
set_option maxHeartbeats 1000000 in
theorem Study_many (s : ByteArray) (w : World) (hs : s.size ≤ 3000) (e : PT) (hp : PE false (tokens s.data.toList) e []) (hn : formOf false s.data.toList = none) (hm : 100 < e.prs) :
    Calls Tryd.prog 11 #[.string s, .bool false] w fun v w' => ∃ q : Nat, v = .returned (.tuple #[.pointer none, .pointer none, .int .i64 3, .int .i64 q]) ∧ (e.prl[100]?).map (·.1) = some q ∧ Below w.heap.size w w' := by
  have hf := fun w => Form_any s false w (by omega)
  rw [hn] at hf
  simp only [formInt] at hf
  have hbu := fun w => Build_any s false e w (by omega) hp
  have hcnt := Study_len hp
  have hpa := fun b F w h => pairs_any e b F w (by omega) h
  have hpc := prs_cnt e
  unfold ptr at hbu hpa
  clear hp hn
  go_enter Tryd.func11, Tryd.ntmps11
  go_wp2_with (first
    | (go_at_call 14; refine (hf _).mono ?_; rintro _ w1 ⟨rfl, hb1⟩)
    | (go_at_call 15; refine (hbu _).mono ?_; rintro _ w2 ⟨b, rfl, hb2, hT2⟩))
  refine (hpa b _ w2 hT2).mono ?_
  rintro _ w3 ⟨g, cap, vs, rfl, hb3, ho3, hvs⟩
  obtain ⟨b', r, hv, hrec, hip, hsite, hmem⟩ := hvs 100 hm
  have hpr := prl_at e r 100 hmem hip hsite
  have hbw := blk_lt hrec.choose_spec
  have c1 : w3.cell? ⟨g, 100, none⟩ = some (.pointer (some ⟨b', 0, none⟩)) := by rw [ho3.cellAt 100 (by omega)]; exact hv
  have c2 : w3.cell? ⟨b', 1, none⟩ = some (.int .i64 r.p) := by rw [hb3.cell (p := ⟨b', 1, none⟩) hbw]; exact isRec_cells hrec
  have HB : Hid (Below w.heap.size w w3) := hb1.trans ((hb2.mono hb1.size).trans (hb3.mono (Nat.le_trans hb1.size hb2.size)))
  have HPR : Hid _ := hpr
  have hgw := World.block_lt_of_cell? _ _ c1
  clear hvs ho3 hv hrec hpr hmem hb1 hb2 hb3 hT2 hip hsite
  go_wp2
  go_quiet (fail)
  go_wp2
  refine bodyPost_ret (v := .tuple #[.pointer none, .pointer none, .int .i64 3, .int .i64 r.p]) (by simp [results, Tryd.results11, go_sem]) rfl ⟨r.p, rfl, HPR.out, HB.out.trans ⟨rfl, rfl, rfl, Nat.le_refl _, fun _ _ => rfl⟩⟩

theorem isT_drew {w : World} {n : Nat} {t : PT} {id site b : Nat} (h : IsT w (fun k => k < w.heap.size) t id site b) : IsT (w.drewN n) (fun k => k < (w.drewN n).heap.size) t id site b :=
  IsT.keep (w := w) (w' := w.drewN n) (F := fun k => k < w.heap.size) (F' := fun k => k < (w.drewN n).heap.size) (fun _ h => h) (fun _ _ => rfl) _ _ _ _ h

set_option maxRecDepth 100000 in
set_option maxHeartbeats 2000000 in
theorem Study_ok (s : ByteArray) (w : World) (hs : s.size ≤ 3000) (e : PT) (hp : PE false (tokens s.data.toList) e []) (hn : formOf false s.data.toList = none) (hm : e.prs ≤ 100) :
    Calls Tryd.prog 11 #[.string s, .bool false] w fun v w' => ∃ b yb : Nat, v = .returned (.tuple #[ptr b, ptr yb, .int .i64 (tyFind (List.range e.prs) e 0 0 [] (st0 e)).2.e, .int .i64 (tyFind (List.range e.prs) e 0 0 [] (st0 e)).2.at_]) ∧
      Below w.heap.size w w' ∧ IsT w' (fun k => k < w'.heap.size) e 0 0 b := by
  obtain ⟨i0, hi, hz0, hz1, hz2⟩ := info_parts Tryd.infoInt
  have HI : Hid _ := hi
  have HZ0 : Hid _ := hz0
  have HZ1 : Hid _ := hz1
  have HZ2 : Hid _ := hz2
  clear hi hz0 hz1 hz2
  have hf := fun w => Form_any s false w (by omega)
  rw [hn] at hf
  simp only [formInt] at hf
  have hbu := fun w => Build_any s false e w (by omega) hp
  have hcnt := Study_len hp
  have hpa := fun b F w h => pairs_any e b F w (by omega) h
  have hwf := hp.wf
  unfold ptr at hbu hpa
  have HWF : Hid _ := hwf
  clear hp hn hwf
  go_enter Tryd.func11, Tryd.ntmps11
  go_wp2_with (first
    | (go_at_call 14; refine (hf _).mono ?_; rintro _ w1 ⟨rfl, hb1⟩)
    | (go_at_call 15; refine (hbu _).mono ?_; rintro _ w2 ⟨b, rfl, hb2, hT2⟩))
  refine (hpa b _ w2 hT2).mono ?_
  rintro _ w3 ⟨g, cap, vs, rfl, hb3, ho3, hvs⟩
  have hT3 : IsT w3 (fun k => k < w3.heap.size) e 0 0 b := IsT.keep (fun k hk => Nat.lt_of_lt_of_le hk hb3.size) (fun k hk => hb3.block k hk) _ _ _ _ hT2
  have HT3 : Hid _ := hT3
  have HB : Hid (Below w.heap.size w w3) := hb1.trans ((hb2.mono hb1.size).trans (hb3.mono (Nat.le_trans hb1.size hb2.size)))
  have hw3 : w.heap.size ≤ w3.heap.size := HB.out.size
  obtain ⟨n, hnn⟩ : ∃ n, n = e.prs := ⟨_, rfl⟩
  rw [← hnn] at hm ⊢
  have HNN : Hid _ := hnn
  clear hvs ho3 hb1 hb2 hb3 hT2 hT3 hbu hpa hf hnn
  go_wp2
  go_loopw [12, 13] (fun v i wr => ∃ k : Nat, k ≤ n ∧ i = .int .i64 k ∧ wr.ownsRow w3.heap.size 3 1 v k ((List.range k).map fun (x : Nat) => Value.int .i64 x) ∧ Below w3.heap.size w3 wr) (fun _ i _ => n - (intOf i).toNat)
  case atStart => exact ⟨0, by omega, rfl, World.ownsRow_nil _ _ _ _, Below.refl _ _⟩
  case round =>
    obtain ⟨k, hk, rfl, hown, hbel⟩ := hrel
    have HOWN : Hid (wr.ownsRow w3.heap.size 3 1 _ k ((List.range k).map fun (x : Nat) => Value.int .i64 x)) := hown
    have hsz := hbel.size
    clear hown
    by_cases hlt : k < n
    · go_wp2_with (at_builtin; go_must (refine wpList_append_own _ rfl (.tmp 56) (.tmp 58) 34 rfl w3.heap.size 3 i0 _ 1 8 Tryd.undInts HI.out HZ0.out HZ1.out HZ2.out rfl (by decide) _ k ((List.range k).map fun (x : Nat) => Value.int .i64 x) rfl (HOWN.out.alloc _) ⟨wr.heap.size, 0, none⟩ 1 1 [.int .i64 k] rfl rfl ?c1 ?c2 ?c3 ?c4 ?c5 ?_))
      case c1 =>
        intro j u hj
        rw [← hj]
        exact alloc_cell_at _ _ _ _
      case c2 => intro u hu; simp at hu; subst hu; rfl
      case c3 => unfold maxLen; omega
      case c4 => first | omega | (simp; omega)
      case c5 => first | omega | (simp; omega)
      intro v' w4 hown' hgrow hnil
      have HB2 : Hid (Below w3.heap.size w3 w4) := (hbel.alloc hsz _).grown hgrow (by simp; omega) (fun b hb => (World.ownsRow.lt HOWN.out b hb).1)
      have HO3 : Hid _ := hown'
      clear hown' hgrow hnil
      go_wp2
      go_roundw
      case rel =>
        refine ⟨k + 1, by omega, by go_num, ?_, HB2.out⟩
        have := HO3.out
        rw [List.range_succ, List.map_append]
        exact this
      case measure => simp [intOf]; omega
    · have hkn : k = n := by omega
      have HKN : Hid _ := hkn
      have hcs := HOWN.out.2
      have hcl : (List.range n).length = n := List.length_range
      have hty := Types_any (w0 := w3) (cls := List.range n) (fun x hx => by rw [List.mem_range] at hx; omega) (by omega) e HWF.out b _ _ wr HT3.out (by omega) hbel (by have h := HOWN.out; rw [hkn] at h; rw [hcl]; exact h) (by rw [hcl, HNN.out]; exact Nat.le_refl _) (by
        rcases hcs with ⟨h, _⟩ | ⟨g', cap', cur, h, _⟩
        · exact ⟨_, _, _, h⟩
        · exact ⟨_, _, _, h⟩)
      unfold ptr at hty
      have HBEL : Hid _ := hbel
      clear hcs hkn hcl hbel
      go_wp2_with fail
      refine hty.mono ?_
      rintro _ w5 ⟨yb, nv, tv, ov, rfl, hsz5, hb5, hin5⟩
      have c4 : w5.cell? ⟨yb, 4, none⟩ = some (.int .i64 (tyFind (List.range n) e 0 0 [] (st0 e)).2.e) := by rw [blk_cell hin5.y]; rfl
      have c5 : w5.cell? ⟨yb, 5, none⟩ = some (.int .i64 (tyFind (List.range n) e 0 0 [] (st0 e)).2.at_) := by rw [blk_cell hin5.y]; rfl
      have HB5 : Hid (Below w.heap.size w w5) := HB.out.trans ((HBEL.out.mono hw3).trans (hb5.mono (by omega)))
      have HT5 : Hid (IsT w5 (fun k => k < w5.heap.size) e 0 0 b) := IsT.keep (fun k hk => by omega) (fun k hk => hin5.b0.block k hk) _ _ _ _ HT3.out
      clear hin5 hb5 hty
      obtain ⟨R, hR⟩ : ∃ R, R = (tyFind (List.range n) e 0 0 [] (st0 e)).2 := ⟨_, rfl⟩
      rw [← hR] at c4 c5
      have HRR : Hid (R = (tyFind (List.range e.prs) e 0 0 [] (st0 e)).2) := by rw [← HNN.out]; exact hR
      clear hR
      go_wp2
      go_quiet (fail)
      go_wp2
      refine bodyPost_ret (v := .tuple #[ptr b, ptr yb, .int .i64 R.e, .int .i64 R.at_]) (by simp [results, Tryd.results11, go_sem, ptr]) rfl ⟨b, yb, by rw [HRR.out], HB5.out.trans ⟨rfl, rfl, rfl, Nat.le_refl _, fun _ _ => rfl⟩, isT_drew HT5.out⟩

/-- what Check tells, by the tree -/
def chkAns (e : PT) : Nat × Nat :=
  if 100 < e.prs then (3, ((e.prl[100]?).map (·.1)).getD 0)
  else ((tyFind (List.range e.prs) e 0 0 [] (st0 e)).2.e, (tyFind (List.range e.prs) e 0 0 [] (st0 e)).2.at_)
end Go.Proofs.YtfnplohaokeljaaDoor

/- leaseref's Erase. -/
namespace Go.Proofs.YtfnplohaokeljaaDoor
open Go.RowKit
open Go.Lib (decDigits)

/-- what Erase answers: the text, and the error's number -/
def eraseOf (s : ByteArray) (v : Value) : Prop :=
  if 9000 < s.size then v = .tuple #[.string (bs []), .int .i64 1]
  else match formOf true s.data.toList with
    | some _ => v = .tuple #[.string (bs []), .int .i64 2]
    | none => ∃ e, PE true (tokens s.data.toList) e [] ∧ v = .tuple #[.string (bs e.ptx), .int .i64 0]

set_option maxHeartbeats 400000 in
theorem refErase_long (s : ByteArray) (w : World) (hs : 9000 < s.size) (hm : s.size ≤ maxLen) :
    Calls Tryd.prog 9 #[.string s] w fun v w' => v = .returned (.tuple #[.string (bs []), .int .i64 1]) ∧ Below w.heap.size w w' := by
  unfold maxLen at hm
  go_enter Tryd.func9, Tryd.ntmps9
  go_wp2
  refine bodyPost_ret (v := .tuple #[.string (bs []), .int .i64 1]) (by simp [results, Tryd.results9, go_sem]; rfl) rfl ⟨rfl, Below.refl _ _⟩

set_option maxHeartbeats 400000 in
theorem refErase_form (s : ByteArray) (w : World) (hs : s.size ≤ 9000) (q : Nat) (hq : formOf true s.data.toList = some q) :
    Calls Tryd.prog 9 #[.string s] w fun v w' => v = .returned (.tuple #[.string (bs []), .int .i64 2]) ∧ Below w.heap.size w w' := by
  have hf := fun w => Form_any s true w (by omega)
  rw [hq] at hf
  simp only [formInt] at hf
  go_enter Tryd.func9, Tryd.ntmps9
  go_wp2_with (go_at_call 14; refine (hf _).mono ?_; rintro e w1 ⟨rfl, hb1⟩)
  refine bodyPost_ret (v := .tuple #[.string (bs []), .int .i64 2]) (by simp [results, Tryd.results9, go_sem]; rfl) rfl ⟨rfl, hb1⟩

set_option maxRecDepth 100000 in
set_option maxHeartbeats 1000000 in
theorem refErase_ok (s : ByteArray) (w : World) (hs : s.size ≤ 9000) (htab : Lib.TabIs Tryd.prog w "internal/strconv.uint64pow10" .u64 Lib.pow10Tab) (e : PT) (hp : PE true (tokens s.data.toList) e []) (hn : formOf true s.data.toList = none) :
    Calls Tryd.prog 9 #[.string s] w fun v w' => v = .returned (.tuple #[.string (bs e.ptx), .int .i64 0]) ∧ Below w.heap.size w w' := by
  have hf := fun w => Form_any s true w (by omega)
  rw [hn] at hf
  simp only [formInt] at hf
  have hbu := fun w => Build_any s true e w (by omega) hp
  have hcnt := Study_len hp
  have hta := (hp.tame (tokens_tame _)).1
  have hwf := hp.wf
  have htx : ∀ w2, Below w.heap.size w w2 → ∀ b, IsT w2 (fun k => k < w2.heap.size) e 0 0 b → Calls Tryd.prog 16 #[ptr b, .slice none 0 0, .slice none 0 0] w2 fun v w' => v = .returned (.string (bs e.ptx)) ∧ Below w2.heap.size w2 w' :=
    fun w2 h2 b hT => Text_any w2 (itoa_ok w2 (Lib.tabBelow_of_tabIs htab w2 h2)) e hwf 0 0 b _ (by omega) hta hwf hT w2 (Below.refl _ _)
  unfold ptr at hbu htx
  have HTX : Hid _ := htx
  clear hp hn hwf hta htx htab
  go_enter Tryd.func9, Tryd.ntmps9
  go_wp2_with (first
    | (go_at_call 14; refine (hf _).mono ?_; rintro _ w1 ⟨rfl, hb1⟩)
    | (go_at_call 15; refine (hbu _).mono ?_; rintro _ w2 ⟨b, rfl, hb2, hT2⟩)
    | (go_at_call 16; refine (HTX.out w2 (hb1.trans (hb2.mono hb1.size)) b hT2).mono ?_; rintro _ w3 ⟨rfl, hb3⟩))
  refine bodyPost_ret (v := .tuple #[.string (bs e.ptx), .int .i64 0]) (by simp [results, Tryd.results9, go_sem]) rfl ⟨rfl, hb1.trans ((hb2.mono hb1.size).trans (hb3.mono (Nat.le_trans hb1.size hb2.size)))⟩
end Go.Proofs.YtfnplohaokeljaaDoor

/- Plain mathematics: the program's way of reading a text (a row of nodes), and that it comes to the same tree, the same first fault. -/
namespace Go.Proofs.YtfnplohaokeljaaDoor

/-- a token as the program has it -/
structure TN where
  kind : Nat
  at_ : Nat
  beh : Nat
  word : List UInt8
  num : Int

def kindN : Cl → Nat
  | .bad => 1
  | .opn => 2
  | .cls => 3
  | .nam => 4
  | .num => 5
  | .reg => 6
  | .kw .let_ => 7
  | .kw .pair => 8
  | .kw .fst => 9
  | .kw .snd => 10
  | .kw .if_ => 11
  | .kw .add => 12
  | .kw .sub => 13
  | .kw .less => 14
  | .kw .loop => 15
  | .kw .new => 16

def wordN (t : Tk) : List UInt8 := match t.c with
  | .nam => t.s
  | .kw _ => t.s
  | _ => []
def numN (t : Tk) : Int := match t.c with
  | .num => valueL t.s
  | .reg => valueL t.s
  | _ => 0
def tnOf (t : Tk) : TN := ⟨kindN t.c, t.at_, t.at_ + t.s.length, wordN t, numN t⟩
/-- the tokens from a place on -/
def tksAt (s : List UInt8) (p : Nat) : List Tk := toks (s.length - p) p (s.drop p)
/-- the next token -/
def tk1 (len : Nat) (l : List Tk) : TN := match l with
  | [] => ⟨0, len, len, [], 0⟩
  | t :: _ => tnOf t

/-- a node -/
structure NR where
  form : Nat
  at_ : Nat
  beh : Nat
  num : Int
  word : List UInt8
  region : Int
  source : Int
  p0 : Int
  p1 : Int
  p2 : Int

/-- a reader -/
structure PS where
  l : List Tk
  fl : Option Nat
  scope : List (List UInt8 × Int)
  nodes : List NR
  opened : List Int

def PS.fail (at_ : Nat) (st : PS) : PS := match st.fl with
  | some _ => st
  | none => { st with fl := some at_, l := [] }
def PS.tail (st : PS) : PS := { st with l := st.l.tail }
def PS.expect (len kind : Nat) (st : PS) : PS := if (tk1 len st.l).kind ≠ kind then st.tail.fail (tk1 len st.l).at_ else st.tail
def PS.add (n : NR) (st : PS) : PS := { st with nodes := st.nodes ++ [n] }
def findS (scope : List (List UInt8 × Int)) (w : List UInt8) : Int := match scope.reverse.find? (fun x => x.1 == w) with
  | some x => x.2
  | none => -1
def formN : Nat → Nat
  | 7 => 3
  | 8 => 4
  | 9 => 5
  | 10 => 6
  | 11 => 7
  | 12 => 8
  | 13 => 9
  | 14 => 10
  | 15 => 11
  | 16 => 12
  | _ => 0

def pBody (pE : PS → Int × PS) (word : List UInt8) (src : Int) (st : PS) : Int × PS :=
  let x := pE { st with scope := st.scope ++ [(word, src)] }
  (x.1, { x.2 with scope := x.2.scope.dropLast })
def pLet (len : Nat) (pE : PS → Int × PS) (n : NR) (st : PS) : NR × PS :=
  let nm := tk1 len st.l
  let x := pE (st.expect len 4)
  let y := pBody pE nm.word x.1 x.2
  ({ n with word := nm.word, p0 := x.1, p1 := y.1, p2 := -1 }, y.2)
def pLoop (len : Nat) (pE : PS → Int × PS) (n : NR) (st : PS) : NR × PS :=
  let t := pE st
  let nm := tk1 len t.2.l
  let x := pE (t.2.expect len 4)
  let y := pBody pE nm.word x.1 x.2
  ({ n with word := nm.word, p0 := t.1, p1 := x.1, p2 := y.1 }, y.2)
def pRegion (len : Nat) (n : NR) (st : PS) : NR × PS := ({ n with region := (tk1 len st.l).num }, st.expect len 6)
def pRow1 (pE : PS → Int × PS) (n : NR) (st : PS) : NR × PS :=
  let x := pE st
  ({ n with p0 := x.1 }, x.2)
def pRow2 (pE : PS → Int × PS) (n : NR) (st : PS) : NR × PS :=
  let x := pRow1 pE n st
  let y := pE x.2
  ({ x.1 with p1 := y.1 }, y.2)
def pRow3 (pE : PS → Int × PS) (n : NR) (st : PS) : NR × PS :=
  let x := pRow2 pE n st
  let y := pE x.2
  ({ x.1 with p2 := y.1 }, y.2)
def pFill (placed : Bool) (len : Nat) (pE : PS → Int × PS) (n : NR) (st : PS) : NR × PS :=
  if n.form = 3 then pLet len pE n st
  else if n.form = 11 then pLoop len pE n st
  else if n.form = 4 then (if placed then pRow2 pE (pRegion len n st).1 (pRegion len n st).2 else pRow2 pE n st)
  else if n.form = 12 then pRow1 pE (pRegion len n st).1 (pRegion len n st).2
  else if n.form = 5 ∨ n.form = 6 then pRow1 pE n st
  else if n.form = 7 then pRow3 pE n st
  else pRow2 pE n st
def pBracket (placed : Bool) (len : Nat) (pE : PS → Int × PS) (n : NR) (st : PS) : Int × PS :=
  let w := tk1 len st.l
  let f := formN w.kind
  if f = 0 ∨ (f = 12 ∧ placed = false) then (-1, st.tail.fail w.at_)
  else
    let x := pFill placed len pE { n with form := f } st.tail
    let e := tk1 len x.2.l
    (((x.2.expect len 3).nodes.length : Int), (x.2.expect len 3).add { x.1 with beh := e.beh })
def nodeT (t : TN) : NR := ⟨0, t.at_, t.beh, 0, [], 0, -1, -1, -1, -1⟩
def pAny (len : Nat) (pB : NR → PS → Int × PS) (st : PS) : Int × PS :=
  let t := tk1 len st.l
  if t.kind = 5 then ((st.nodes.length : Int), st.tail.add { nodeT t with form := 1, num := t.num })
  else if t.kind = 4 then ((st.nodes.length : Int), st.tail.add { nodeT t with form := 2, word := t.word, source := findS st.scope t.word })
  else if t.kind = 2 then pB (nodeT t) st.tail
  else (-1, st.tail.fail t.at_)
def pSeat (f : PS → Int × PS) (st : PS) : Int × PS :=
  let x := f { st with opened := st.opened ++ [-1] }
  (x.1, { x.2 with opened := x.2.opened.set st.opened.length x.1 })
def pExpr (placed : Bool) (len : Nat) : Nat → PS → Int × PS
  | 0 => pSeat (pAny len fun _ st => (-1, st))
  | m + 1 => pSeat (pAny len (pBracket placed len (pExpr placed len m)))

theorem kindN_kw (k : Kw) : 7 ≤ kindN (.kw k) := by cases k <;> decide
theorem kindN_num (c : Cl) : kindN c = 5 ↔ c = .num := by
  cases c with
  | kw k => cases k <;> decide
  | _ => decide
theorem kindN_nam (c : Cl) : kindN c = 4 ↔ c = .nam := by
  cases c with
  | kw k => cases k <;> decide
  | _ => decide
theorem kindN_opn (c : Cl) : kindN c = 2 ↔ c = .opn := by
  cases c with
  | kw k => cases k <;> decide
  | _ => decide
theorem kindN_cls (c : Cl) : kindN c = 3 ↔ c = .cls := by
  cases c with
  | kw k => cases k <;> decide
  | _ => decide
theorem kindN_reg (c : Cl) : kindN c = 6 ↔ c = .reg := by
  cases c with
  | kw k => cases k <;> decide
  | _ => decide
theorem kindN_pos (c : Cl) : kindN c ≠ 0 := by
  cases c with
  | kw k => cases k <;> decide
  | _ => decide

/-- what a reader that has failed comes to -/
def PS.stuck (q : Nat) (st : PS) : Prop := st.fl = some q ∧ st.l = []

theorem stuck_fail {q a : Nat} {st : PS} (h : st.stuck q) : (st.fail a).stuck q := by
  obtain ⟨h1, h2⟩ := h
  unfold PS.fail; rw [h1]; exact ⟨h1, h2⟩
theorem stuck_tail {q : Nat} {st : PS} (h : st.stuck q) : st.tail.stuck q := ⟨h.1, by simp [PS.tail, h.2]⟩
theorem stuck_expect {q len k : Nat} {st : PS} (h : st.stuck q) : (st.expect len k).stuck q := by
  unfold PS.expect; split
  · exact stuck_fail (stuck_tail h)
  · exact stuck_tail h
theorem fail_stuck {a : Nat} {st : PS} (h : st.fl = none) : (st.fail a).stuck a := by
  unfold PS.fail; rw [h]; exact ⟨rfl, rfl⟩

/-- a way of reading that stays stuck -/
def Keeps (pE : PS → Int × PS) : Prop := ∀ (q : Nat) (st : PS), st.stuck q → (pE st).2.stuck q

theorem keeps_any (len : Nat) (pB : NR → PS → Int × PS) : Keeps (pAny len pB) := by
  intro q st h
  unfold pAny
  simp only [h.2, tk1]
  exact stuck_fail (stuck_tail h)
theorem keeps_seat {f : PS → Int × PS} (hf : Keeps f) : Keeps (pSeat f) := by
  intro q st h
  exact hf q { st with opened := st.opened ++ [-1] } h
theorem keeps_expr (placed : Bool) (len n : Nat) : Keeps (pExpr placed len n) := by
  cases n with
  | zero => exact keeps_seat (keeps_any _ _)
  | succ m => exact keeps_seat (keeps_any _ _)
theorem keeps_body {pE : PS → Int × PS} (h : Keeps pE) (w : List UInt8) (src : Int) {q : Nat} {st : PS} (hs : st.stuck q) : (pBody pE w src st).2.stuck q := h q { st with scope := st.scope ++ [(w, src)] } hs
theorem keeps_row1 {pE : PS → Int × PS} (h : Keeps pE) (n : NR) {q : Nat} {st : PS} (hs : st.stuck q) : (pRow1 pE n st).2.stuck q := h q st hs
theorem keeps_row2 {pE : PS → Int × PS} (h : Keeps pE) (n : NR) {q : Nat} {st : PS} (hs : st.stuck q) : (pRow2 pE n st).2.stuck q := h q _ (keeps_row1 h n hs)
theorem keeps_row3 {pE : PS → Int × PS} (h : Keeps pE) (n : NR) {q : Nat} {st : PS} (hs : st.stuck q) : (pRow3 pE n st).2.stuck q := h q _ (keeps_row2 h n hs)

/-! ### how many tokens are left -/
def Less (pE : PS → Int × PS) (m : Nat) : Prop := ∀ st : PS, st.l.length ≤ m → (pE st).2.l.length ≤ st.l.length
theorem fail_len (a : Nat) (st : PS) : (st.fail a).l.length ≤ st.l.length := by
  unfold PS.fail; split <;> simp
theorem tail_len (st : PS) : st.tail.l.length ≤ st.l.length := by simp [PS.tail]
theorem expect_len (len k : Nat) (st : PS) : (st.expect len k).l.length ≤ st.l.length := by
  unfold PS.expect; split
  · exact Nat.le_trans (fail_len _ _) (tail_len _)
  · exact tail_len _
theorem body_len {pE : PS → Int × PS} {m : Nat} (h : Less pE m) (w : List UInt8) (src : Int) (st : PS) (hl : st.l.length ≤ m) : (pBody pE w src st).2.l.length ≤ st.l.length := h { st with scope := st.scope ++ [(w, src)] } hl
theorem row1_len {pE : PS → Int × PS} {m : Nat} (h : Less pE m) (n : NR) (st : PS) (hl : st.l.length ≤ m) : (pRow1 pE n st).2.l.length ≤ st.l.length := h st hl
theorem row2_len {pE : PS → Int × PS} {m : Nat} (h : Less pE m) (n : NR) (st : PS) (hl : st.l.length ≤ m) : (pRow2 pE n st).2.l.length ≤ st.l.length := by
  have h1 := row1_len h n st hl
  exact Nat.le_trans (h _ (Nat.le_trans h1 hl)) h1
theorem row3_len {pE : PS → Int × PS} {m : Nat} (h : Less pE m) (n : NR) (st : PS) (hl : st.l.length ≤ m) : (pRow3 pE n st).2.l.length ≤ st.l.length := by
  have h1 := row2_len h n st hl
  exact Nat.le_trans (h _ (Nat.le_trans h1 hl)) h1
theorem let_len {pE : PS → Int × PS} {m : Nat} (h : Less pE m) (len : Nat) (n : NR) (st : PS) (hl : st.l.length ≤ m) : (pLet len pE n st).2.l.length ≤ st.l.length := by
  have h1 := expect_len len 4 st
  have h2 := h (st.expect len 4) (by omega)
  have h3 := body_len h (tk1 len st.l).word (pE (st.expect len 4)).1 (pE (st.expect len 4)).2 (by omega)
  unfold pLet; simp only; omega
theorem loop_len {pE : PS → Int × PS} {m : Nat} (h : Less pE m) (len : Nat) (n : NR) (st : PS) (hl : st.l.length ≤ m) : (pLoop len pE n st).2.l.length ≤ st.l.length := by
  have h0 := h st hl
  have h1 := expect_len len 4 (pE st).2
  have h2 := h ((pE st).2.expect len 4) (by omega)
  have h3 := body_len h (tk1 len (pE st).2.l).word (pE ((pE st).2.expect len 4)).1 (pE ((pE st).2.expect len 4)).2 (by omega)
  unfold pLoop; simp only; omega
theorem region_len (len : Nat) (n : NR) (st : PS) : (pRegion len n st).2.l.length ≤ st.l.length := expect_len _ _ _
theorem fill_len {pE : PS → Int × PS} {m : Nat} (h : Less pE m) (placed : Bool) (len : Nat) (n : NR) (st : PS) (hl : st.l.length ≤ m) : (pFill placed len pE n st).2.l.length ≤ st.l.length := by
  have hr := region_len len n st
  unfold pFill
  split
  · exact let_len h len n st hl
  split
  · exact loop_len h len n st hl
  split
  · split
    · exact Nat.le_trans (row2_len h _ _ (by omega)) hr
    · exact row2_len h n st hl
  split
  · exact Nat.le_trans (row1_len h _ _ (by omega)) hr
  split
  · exact row1_len h n st hl
  split
  · exact row3_len h n st hl
  · exact row2_len h n st hl
theorem bracket_len {pE : PS → Int × PS} {m : Nat} (h : Less pE m) (placed : Bool) (len : Nat) (n : NR) (st : PS) (hl : st.l.length ≤ m) : (pBracket placed len pE n st).2.l.length ≤ st.l.length := by
  have ht := tail_len st
  unfold pBracket
  simp only
  split
  · exact Nat.le_trans (fail_len _ _) ht
  · have h1 := fill_len h placed len { n with form := formN (tk1 len st.l).kind } st.tail (by omega)
    have h2 := expect_len len 3 (pFill placed len pE { n with form := formN (tk1 len st.l).kind } st.tail).2
    simp only [PS.add]; omega
theorem any_len {pB : NR → PS → Int × PS} (len : Nat) (st : PS) (h : ∀ n, (pB n st.tail).2.l.length ≤ st.tail.l.length) : (pAny len pB st).2.l.length ≤ st.l.length := by
  have ht := tail_len st
  unfold pAny
  simp only
  split
  · exact ht
  split
  · exact ht
  split
  · exact Nat.le_trans (h _) ht
  · exact Nat.le_trans (fail_len _ _) ht
theorem expr_len (placed : Bool) (len : Nat) : ∀ n : Nat, Less (pExpr placed len n) n := by
  intro n
  induction n with
  | zero =>
    intro st hl
    unfold pExpr pSeat
    exact any_len len { st with opened := st.opened ++ [-1] } (fun _ => Nat.le_refl _)
  | succ m ih =>
    intro st hl
    unfold pExpr pSeat
    refine any_len len { st with opened := st.opened ++ [-1] } (fun n => bracket_len ih placed len n _ ?_)
    simp [PS.tail]; omega
end Go.Proofs.YtfnplohaokeljaaDoor

namespace Go.Proofs.YtfnplohaokeljaaDoor
open Go.RowKit

/-- a byte of a text; outside of it 0 -/
def bA (s : ByteArray) (a : Nat) : UInt8 := if h : a < s.size then s[a] else 0
theorem bA_in (s : ByteArray) (a : Nat) (h : a < s.size) : bA s a = s[a] := by unfold bA; rw [dif_pos h]
theorem bA_out (s : ByteArray) (a : Nat) (h : s.size ≤ a) : bA s a = 0 := by unfold bA; rw [dif_neg (by omega)]

set_option maxHeartbeats 400000 in
theorem byteAt_any (s : ByteArray) (a : Nat) (w : World) (ha : a ≤ 10000) :
    Calls Tryd.prog 84 #[.string s, .int .i64 a] w fun e w' => e = .returned (.int .u8 ((bA s a).toNat : Int)) ∧ w' = w := by
  by_cases h : a < s.size
  · rw [bA_in s a h]
    go_enter Tryd.func84, Tryd.ntmps84
    go_wp2
    go_ret
    exact ⟨rfl, rfl⟩
  · rw [bA_out s a (by omega)]
    go_enter Tryd.func84, Tryd.ntmps84
    go_wp2
    go_ret
    exact ⟨rfl, rfl⟩

set_option maxHeartbeats 400000 in
theorem isLetter_any (c : UInt8) (w : World) :
    Calls Tryd.prog 85 #[.int .u8 (c.toNat : Int)] w fun e w' => e = .returned (.bool (inB 97 122 c)) ∧ w' = w := by
  have hc : c.toNat < 256 := c.toNat_lt
  unfold inB
  go_enter Tryd.func85, Tryd.ntmps85
  go_wp2
  all_goals go_ret
  · refine ⟨ret_bool ?_, rfl⟩
    have h1 : (97 : Int) ≤ (c.toNat : Int) := by assumption
    simp [h1]
  · refine ⟨ret_bool ?_, rfl⟩
    have h1 : ¬ (97 : Int) ≤ (c.toNat : Int) := by omega
    simp [h1]

set_option maxHeartbeats 400000 in
theorem isDigit_any (c : UInt8) (w : World) :
    Calls Tryd.prog 87 #[.int .u8 (c.toNat : Int)] w fun e w' => e = .returned (.bool (inB 48 57 c)) ∧ w' = w := by
  have hc : c.toNat < 256 := c.toNat_lt
  unfold inB
  go_enter Tryd.func87, Tryd.ntmps87
  go_wp2
  all_goals go_ret
  · refine ⟨ret_bool ?_, rfl⟩
    have h1 : (48 : Int) ≤ (c.toNat : Int) := by assumption
    simp [h1]
  · refine ⟨ret_bool ?_, rfl⟩
    have h1 : ¬ (48 : Int) ≤ (c.toNat : Int) := by omega
    simp [h1]

set_option maxHeartbeats 400000 in
theorem isBlank_any (c : UInt8) (w : World) :
    Calls Tryd.prog 96 #[.int .u8 (c.toNat : Int)] w fun e w' => e = .returned (.bool (blankB c)) ∧ w' = w := by
  have e1 : ((c.toNat : Int) == 32) = (c == 32) := byte_eq c 32
  have e2 : ((c.toNat : Int) == 10) = (c == 10) := byte_eq c 10
  unfold blankB
  rw [← e1, ← e2]
  clear e1 e2
  go_enter Tryd.func96, Tryd.ntmps96
  go_wp2
  all_goals go_ret
  all_goals
    refine ⟨ret_bool ?_, rfl⟩
    simp_all

/-- how many blanks stand at the head -/
def nbl : List UInt8 → Nat
  | [] => 0
  | c :: r => if blankB c then nbl r + 1 else 0
theorem nbl_le (l : List UInt8) : nbl l ≤ l.length := by
  induction l with
  | nil => simp [nbl]
  | cons c r ih => simp only [nbl]; split <;> simp <;> omega

set_option maxRecDepth 100000 in
set_option maxHeartbeats 1000000 in
theorem skipBlanks_any (s : ByteArray) (a : Nat) (w : World) (hs : s.size ≤ 9000) (ha : a ≤ s.size) :
    Calls Tryd.prog 83 #[.string s, .int .i64 a] w fun e w' => e = .returned (.int .i64 ((a + nbl (s.data.toList.drop a) : Nat) : Int)) ∧ w' = w := by
  have hby := fun k (h : k ≤ 10000) w => byteAt_any s k w h
  go_enter Tryd.func83, Tryd.ntmps83
  go_wp2
  go_loop [5] (fun i => ∃ k : Nat, k ≤ s.size ∧ i = .int .i64 k ∧ a + nbl (s.data.toList.drop a) = k + nbl (s.data.toList.drop k)) (fun i => s.size - (intOf i).toNat)
  case atStart => exact ⟨a, ha, rfl, rfl⟩
  case round =>
    obtain ⟨k, hk, rfl, hr⟩ := hrel
    have HR : Hid _ := hr
    clear hr
    by_cases hlt : k < s.size
    · by_cases hb : blankB s[k] = true
      · have hn : nbl (s.data.toList.drop k) = nbl (s.data.toList.drop (k + 1)) + 1 := by rw [drop_cons s k hlt]; simp [nbl, hb]
        have HN : Hid _ := hn
        have hbl := fun w => isBlank_any s[k] w
        rw [hb] at hbl
        have hbk := hby k (by omega)
        rw [bA_in s k hlt] at hbk
        clear hn hb
        go_wp2_with (first
          | (go_at_call 84; refine (hbk _).mono ?_; rintro e w' ⟨rfl, rfl⟩)
          | (go_at_call 96; refine (hbl _).mono ?_; rintro e w' ⟨rfl, rfl⟩))
        go_round
        case rel => exact ⟨k + 1, by omega, by go_num, by rw [HR.out, HN.out]; omega⟩
        case measure => simp [intOf]; omega
      · have hb0 : blankB s[k] = false := by simpa using hb
        have hn : nbl (s.data.toList.drop k) = 0 := by rw [drop_cons s k hlt]; simp [nbl, hb0]
        have HN : Hid _ := hn
        have hbl := fun w => isBlank_any s[k] w
        rw [hb0] at hbl
        have hbk := hby k (by omega)
        rw [bA_in s k hlt] at hbk
        clear hn hb hb0
        go_wp2_with (first
          | (go_at_call 84; refine (hbk _).mono ?_; rintro e w' ⟨rfl, rfl⟩)
          | (go_at_call 96; refine (hbl _).mono ?_; rintro e w' ⟨rfl, rfl⟩))
        go_ret
        exact ⟨ret_int (by have h1 := HR.out; have h2 := HN.out; omega), rfl⟩
    · have hn : nbl (s.data.toList.drop k) = 0 := by rw [drop_end s k (by omega)]; rfl
      have HN : Hid _ := hn
      clear hn
      go_wp2
      go_ret
      exact ⟨ret_int (by have h1 := HR.out; have h2 := HN.out; omega), rfl⟩

set_option maxRecDepth 100000 in
set_option maxHeartbeats 1000000 in
theorem valueOf_any (s : ByteArray) (a n b : Nat) (w : World) (hs : s.size ≤ 9000) (hab : b = a + n) (ha : b ≤ s.size) (hn : n ≤ 5) (hd : ∀ c ∈ (s.data.toList.drop a).take n, c ≠ 35) :
    Calls Tryd.prog 99 #[.string s, .int .i64 a, .int .i64 b] w fun e w' => e = .returned (.int .i64 (valueL ((s.data.toList.drop a).take n))) ∧ w' = w := by
  have hby := fun k (h : k ≤ 10000) w => byteAt_any s k w h
  have HD : Hid _ := hd
  clear hd
  go_enter Tryd.func99, Tryd.ntmps99
  go_wp2
  go_loop [7, 8] (fun v i => ∃ k j : Nat, k ≤ n ∧ j = a + k ∧ i = .int .i64 j ∧ v = .int .i64 (valueL ((s.data.toList.drop a).take k))) (fun _ i => b - (intOf i).toNat)
  case atStart => exact ⟨0, a, by omega, rfl, rfl, rfl⟩
  case round =>
    obtain ⟨k, j, hk, hj, rfl, rfl⟩ := hrel
    have hb := valueL_bd ((s.data.toList.drop a).take k)
    have hp := pow5 ((s.data.toList.drop a).take k).length (by simp; omega)
    obtain ⟨m, hm⟩ : ∃ m, m = valueL ((s.data.toList.drop a).take k) := ⟨_, rfl⟩
    rw [← hm] at hb
    obtain ⟨hb1, hb2⟩ : -3000000 ≤ m ∧ m ≤ 3000000 := by omega
    clear hp hb
    by_cases hlt : k < n
    · have hin : j < s.size := by omega
      have hsn : valueL ((s.data.toList.drop a).take (k + 1)) = 10 * m + (s[j].toNat : Int) - 48 := by
        have e : (s.data.toList.drop a).take (k + 1) = (s.data.toList.drop a).take k ++ [s[j]] := by
          subst hj; rw [List.take_succ_eq_append_getElem (by simp; omega), List.getElem_drop]; rfl
        have hne : s[j] ≠ 35 := by
          apply HD.out
          have : s[j] ∈ (s.data.toList.drop a).take (k + 1) := by rw [e]; simp
          rw [show (s.data.toList.drop a).take (k + 1) = ((s.data.toList.drop a).take n).take (k + 1) from by rw [List.take_take, Nat.min_eq_left (by omega)]] at this
          exact List.mem_of_mem_take this
        rw [e, valueL_snoc, if_neg hne, hm]
      have HS : Hid _ := hsn
      have hcb : s[j].toNat < 256 := s[j].toNat_lt
      have HC : Hid _ := hcb
      have hbk := hby j (by omega)
      rw [bA_in s j hin] at hbk
      clear hsn hcb
      rw [← hm]
      have HM : Hid _ := hm
      clear hm
      have HJ : Hid (j = a + k) := hj
      have hjb : j < b := by omega
      have HAB : Hid (b = a + n) := hab
      clear hj hab
      go_wp2_with fail
      refine (hbk _).mono ?_
      rintro e w' ⟨rfl, rfl⟩
      go_wp2
      go_round
      case rel =>
        have := HJ.out
        refine ⟨k + 1, j + 1, by omega, by omega, by go_num, ?_⟩
        rw [HS.out]
        have := HC.out
        rw [IntWalk.wrap64_in (s[j].toNat : Int) (by omega), IntWalk.wrap64_in (m * 10 + (s[j].toNat : Int)) (by omega), IntWalk.wrap64_in _ (by omega), Int.mul_comm m 10]
      case measure => simp [intOf]; omega
    · have hkn : k = n := by omega
      subst hkn
      go_wp2
      go_ret
      exact ⟨rfl, rfl⟩

set_option maxHeartbeats 400000 in
theorem cut_any (s : ByteArray) (a b : Nat) (w : World) (ha : a ≤ b) (hb : b ≤ s.size) :
    Calls Tryd.prog 97 #[.string s, .int .i64 a, .int .i64 b] w fun e w' => e = .returned (.string (s.extract a b)) ∧ w' = w := by
  go_enter Tryd.func97, Tryd.ntmps97
  go_wp2
  go_ret
  exact ⟨rfl, rfl⟩

theorem kw_key (s : ByteArray) (k : Kw) : (s.toList == k.bytes) = decide (kwOf s.data.toList = some k) := by
  rw [Lib.toList_data]
  by_cases h : kwOf s.data.toList = some k
  · rw [decide_eq_true h, kwOf_some h]; simp
  · rw [decide_eq_false h, beq_eq_false_iff_ne]
    intro e; rw [e, kwOf_bytes] at h; exact h rfl

set_option maxRecDepth 100000 in
set_option maxHeartbeats 1000000 in
theorem kindOf_any (s : ByteArray) (w : World) :
    Calls Tryd.prog 98 #[.string s] w fun e w' => e = .returned (.int .i64 ((kindN (wordCl s.data.toList 0) : Nat) : Int)) ∧ w' = w := by
  have f1 := kw_key s .let_
  have f2 := kw_key s .pair
  have f3 := kw_key s .fst
  have f4 := kw_key s .snd
  have f5 := kw_key s .if_
  have f6 := kw_key s .add
  have f7 := kw_key s .sub
  have f8 := kw_key s .less
  have f9 := kw_key s .loop
  have f10 := kw_key s .new
  simp only [Kw.bytes] at f1 f2 f3 f4 f5 f6 f7 f8 f9 f10
  unfold wordCl
  cases hk : kwOf s.data.toList with
  | none =>
    rw [hk] at f1 f2 f3 f4 f5 f6 f7 f8 f9 f10
    simp only [reduceCtorEq, decide_false] at f1 f2 f3 f4 f5 f6 f7 f8 f9 f10
    clear hk
    go_enter Tryd.func98, Tryd.ntmps98
    go_wp2
    go_ret
    exact ⟨rfl, rfl⟩
  | some k =>
    rw [hk] at f1 f2 f3 f4 f5 f6 f7 f8 f9 f10
    clear hk
    cases k
    all_goals
      simp only [Option.some.injEq, reduceCtorEq, decide_false, decide_true] at f1 f2 f3 f4 f5 f6 f7 f8 f9 f10
      go_enter Tryd.func98, Tryd.ntmps98
      go_wp2
      go_ret
      exact ⟨rfl, rfl⟩
end Go.Proofs.YtfnplohaokeljaaDoor

namespace Go.Proofs.YtfnplohaokeljaaDoor
open Go.RowKit

def tnVal (t : TN) : Value := .agg #[.int .i64 t.kind, .int .i64 t.at_, .int .i64 t.beh, .string (bs t.word), .int .i64 t.num]

theorem bA_let (s : ByteArray) (k : Nat) (lo hi : Int) (hlo : 0 < lo) : (inB lo hi (bA s k) = true ∧ k < s.size ∧ run lo hi (s.data.toList.drop k) = run lo hi (s.data.toList.drop (k + 1)) + 1) ∨ (inB lo hi (bA s k) = false ∧ run lo hi (s.data.toList.drop k) = 0) := by
  by_cases h : k < s.size
  · rw [bA_in s k h, drop_cons s k h]
    cases hb : inB lo hi s[k] with
    | true => left; exact ⟨rfl, h, by simp [run, hb]⟩
    | false => right; exact ⟨rfl, by simp [run, hb]⟩
  · right
    rw [bA_out s k (by omega), drop_end s k (by omega)]
    refine ⟨?_, rfl⟩
    unfold inB
    have h0 : ((0 : UInt8).toNat : Int) = 0 := rfl
    rw [h0, decide_eq_false (by omega : ¬ lo ≤ 0)]; rfl

theorem wordCl_small (l : List UInt8) (n : Nat) (h : n ≤ 8) : wordCl l n = wordCl l 0 := by
  unfold wordCl; cases kwOf l <;> simp [h]
theorem wordCl_big (l : List UInt8) (h : 8 < l.length) : wordCl l l.length = .bad := by
  unfold wordCl
  cases hk : kwOf l with
  | none => simp; omega
  | some k =>
    have := kwOf_some hk
    rw [this] at h
    clear this hk
    revert h
    cases k <;> simp [Kw.bytes]

set_option maxRecDepth 100000 in
set_option maxHeartbeats 1000000 in
theorem readWord_any (s : ByteArray) (a n : Nat) (w : World) (hs : s.size ≤ 9000) (hn : n = run 97 122 (s.data.toList.drop a)) (ha : a + n ≤ s.size) :
    Calls Tryd.prog 86 #[.string s, .int .i64 a] w fun e w' => e = .returned (tnVal ⟨kindN (wordCl ((s.data.toList.drop a).take n) n), a, a + n, if n ≤ 8 then (s.data.toList.drop a).take n else [], 0⟩) ∧ Below w.heap.size w w' := by
  have hby := fun k (h : k ≤ 10000) w => byteAt_any s k w h
  have HN : Hid _ := hn
  clear hn
  go_enter Tryd.func86, Tryd.ntmps86
  go_wp2
  go_loop [5] (fun i => ∃ k j : Nat, k ≤ n ∧ Hid (j = a + k) ∧ j ≤ s.size ∧ i = .int .i64 j ∧ Hid (n = k + run 97 122 (s.data.toList.drop j))) (fun i => s.size - (intOf i).toNat)
  case atStart => exact ⟨0, a, by omega, (rfl : a = a + 0), by omega, rfl, (by rw [← HN.out]; omega : n = 0 + run 97 122 (s.data.toList.drop a))⟩
  case round =>
    obtain ⟨k, j, hk, HJ, hjs, rfl, HR⟩ := hrel
    have hbk := hby j (by omega)
    have hil := fun w => isLetter_any (bA s j) w
    rcases bA_let s j 97 122 (by decide) with ⟨h1, h2, h3⟩ | ⟨h1, h2⟩
    · rw [h1] at hil
      have H3 : Hid _ := h3
      clear h1 h3
      go_wp2_with (first
        | (go_at_call 84; refine (hbk _).mono ?_; rintro e w' ⟨rfl, rfl⟩)
        | (go_at_call 85; refine (hil _).mono ?_; rintro e w' ⟨rfl, rfl⟩))
      go_round
      case rel => exact ⟨k + 1, j + 1, by have h := HR.out; rw [H3.out] at h; omega, (by have h := HJ.out; omega : j + 1 = a + (k + 1)), by omega, by go_num, (by have h := HR.out; rw [H3.out] at h; omega : n = (k + 1) + run 97 122 (s.data.toList.drop (j + 1)))⟩
      case measure => simp [intOf]; omega
    · rw [h1] at hil
      have hkn : k = n := by have h := HR.out; rw [h2] at h; omega
      have hja : j = a + n := by rw [← hkn]; exact HJ.out
      clear h1 h2 HR
      have hcu := fun w => cut_any s a j w (by omega) hjs
      have hkd := fun w => kindOf_any (s.extract a j) w
      have hex : (s.extract a j).data.toList = (s.data.toList.drop a).take n := by rw [hja, ext_of]
      rw [hex] at hkd
      have HEX : Hid _ := bs_eq hex
      have HJ' : Hid (j = a + n) := hja
      have hjk : (j : Int) - (a : Int) = (n : Int) := by omega
      clear hex hja hkn HJ hk
      by_cases h8 : n ≤ 8
      · have H8 : Hid (n ≤ 8) := h8
        go_wp2_with (first
          | (go_at_call 84; refine (hbk _).mono ?_; rintro e w' ⟨rfl, rfl⟩)
          | (go_at_call 85; refine (hil _).mono ?_; rintro e w' ⟨rfl, rfl⟩)
          | (go_at_call 97; refine (hcu _).mono ?_; rintro e w' ⟨rfl, rfl⟩)
          | (go_at_call 98; refine (hkd _).mono ?_; rintro e w' ⟨rfl, rfl⟩))
        refine bodyPost_ret (v := .agg #[.int .i64 ((kindN (wordCl ((s.data.toList.drop a).take n) 0) : Nat) : Int), .int .i64 a, .int .i64 j, .string (s.extract a j), .int .i64 0]) (by simp [results, Tryd.results86, go_sem]) rfl ⟨?_, (Below.refl _ _).alloc (Nat.le_refl _) _⟩
        rw [HEX.out, HJ'.out, wordCl_small _ _ H8.out]; first | rfl | (rw [if_pos H8.out]; rfl)
      · have H8 : Hid (¬ n ≤ 8) := h8
        have hlen : ((s.data.toList.drop a).take n).length = n := by simp; omega
        have HB : Hid (wordCl ((s.data.toList.drop a).take n) n = .bad) := by
          have := wordCl_big ((s.data.toList.drop a).take n) (by omega)
          rw [hlen] at this; exact this
        clear hlen
        go_wp2_with (first
          | (go_at_call 84; refine (hbk _).mono ?_; rintro e w' ⟨rfl, rfl⟩)
          | (go_at_call 85; refine (hil _).mono ?_; rintro e w' ⟨rfl, rfl⟩))
        refine bodyPost_ret (v := .agg #[.int .i64 1, .int .i64 a, .int .i64 j, .string ⟨#[]⟩, .int .i64 0]) (by simp [results, Tryd.results86, go_sem]) rfl ⟨?_, (Below.refl _ _).alloc (Nat.le_refl _) _⟩
        rw [HB.out, HJ'.out]; first | rfl | (rw [if_neg H8.out]; rfl)

theorem run_mem (lo hi : Int) (l : List UInt8) : ∀ c ∈ l.take (run lo hi l), inB lo hi c = true := by
  induction l with
  | nil => simp
  | cons c r ih =>
    simp only [run]
    by_cases h : inB lo hi c = true
    · rw [if_pos h, List.take_succ_cons]
      intro x hx
      rcases List.mem_cons.1 hx with rfl | hx
      · exact h
      · exact ih x hx
    · rw [if_neg h]; simp

/-- what readNumber gives -/
def numTN (l : List UInt8) (most kind a d n : Nat) : TN := if numeralB (l.take n) most then ⟨kind, a, d + n, [], valueL (l.take n)⟩ else ⟨1, a, d + n, [], 0⟩

set_option maxRecDepth 100000 in
set_option maxHeartbeats 2000000 in
theorem readNumber_any (s : ByteArray) (a d n most kind : Nat) (w : World) (hs : s.size ≤ 9000) (hn : n = run 48 57 (s.data.toList.drop d)) (ha : d + n ≤ s.size) (hm : 3 ≤ most ∧ most ≤ 4) :
    Calls Tryd.prog 88 #[.string s, .int .i64 a, .int .i64 d, .int .i64 most, .int .i64 kind] w fun e w' => e = .returned (tnVal (numTN (s.data.toList.drop d) most kind a d n)) ∧ Below w.heap.size w w' := by
  have hby := fun k (h : k ≤ 10000) w => byteAt_any s k w h
  have hdig : ∀ c ∈ (s.data.toList.drop d).take n, c ≠ 35 := by
    rw [hn]; intro c hc e
    have := run_mem 48 57 _ c hc
    rw [e] at this; revert this; decide
  have HDIG : Hid _ := hdig
  have HN : Hid _ := hn
  have hlen : ((s.data.toList.drop d).take n).length = n := by simp; omega
  have hhead : 0 < n → ((s.data.toList.drop d).take n).head? = some (bA s d) := by
    intro h0
    rw [bA_in s d (by omega), drop_cons s d (by omega)]
    obtain ⟨m, rfl⟩ : ∃ m, n = m + 1 := ⟨n - 1, by omega⟩
    simp
  have hnum : numeralB ((s.data.toList.drop d).take n) most = (decide (0 < n) && decide (n ≤ most) && (decide (n = 1) || (((s.data.toList.drop d).take n).head? != some 48))) := by unfold numeralB; rw [hlen]
  have HNUM : Hid _ := hnum
  have HHEAD : Hid _ := hhead
  clear hn hdig hlen hnum hhead
  go_enter Tryd.func88, Tryd.ntmps88
  go_wp2
  go_loop [11] (fun i => ∃ k j : Nat, k ≤ n ∧ Hid (j = d + k) ∧ j ≤ s.size ∧ i = .int .i64 j ∧ Hid (n = k + run 48 57 (s.data.toList.drop j))) (fun i => s.size - (intOf i).toNat)
  case atStart => exact ⟨0, d, by omega, (rfl : d = d + 0), by omega, rfl, (by rw [← HN.out]; omega : n = 0 + run 48 57 (s.data.toList.drop d))⟩
  case round =>
    obtain ⟨k, j, hk, HJ, hjs, rfl, HR⟩ := hrel
    have hbk := hby j (by omega)
    have hil := fun w => isDigit_any (bA s j) w
    rcases bA_let s j 48 57 (by decide) with ⟨h1, h2, h3⟩ | ⟨h1, h2⟩
    · rw [h1] at hil
      have H3 : Hid _ := h3
      clear h1 h3
      go_wp2_with (first
        | (go_at_call 84; refine (hbk _).mono ?_; rintro e w' ⟨rfl, rfl⟩)
        | (go_at_call 87; refine (hil _).mono ?_; rintro e w' ⟨rfl, rfl⟩))
      go_round
      case rel => exact ⟨k + 1, j + 1, by have h := HR.out; rw [H3.out] at h; omega, (by have h := HJ.out; omega : j + 1 = d + (k + 1)), by omega, by go_num, (by have h := HR.out; rw [H3.out] at h; omega : n = (k + 1) + run 48 57 (s.data.toList.drop (j + 1)))⟩
      case measure => simp [intOf]; omega
    · rw [h1] at hil
      have hkn : k = n := by have h := HR.out; rw [h2] at h; omega
      have hja : j = d + n := by rw [← hkn]; exact HJ.out
      clear h1 h2 HR
      have HJ' : Hid (j = d + n) := hja
      have hjk : (j : Int) - (d : Int) = (n : Int) := by omega
      have hbd := hby d (by omega)
      have e48 : (((bA s d).toNat : Int) == 48) = (bA s d == 48) := byte_eq (bA s d) 48
      have HE48 : Hid _ := e48
      clear hja hkn HJ hk e48
      by_cases c0 : n = 0
      · have b0 : ((n : Int) == 0) = true := by rw [c0]; rfl
        have HF : Hid (numTN (s.data.toList.drop d) most kind a d n = ⟨1, a, d + n, [], 0⟩) := by
          have : numeralB ((s.data.toList.drop d).take n) most = false := by rw [HNUM.out]; simp [c0]
          unfold numTN; rw [this]; rfl
        have c0' : n < 1 := by omega
        clear c0
        go_wp2_with (first
          | (go_at_call_of 84 (Value.int IntKind.i64 (j : Int)); refine (hbk _).mono ?_; rintro e w' ⟨rfl, rfl⟩)
          | (go_at_call_of 84 (Value.int IntKind.i64 (d : Int)); refine (hbd _).mono ?_; rintro e w' ⟨rfl, rfl⟩)
          | (go_at_call 87; refine (hil _).mono ?_; rintro e w' ⟨rfl, rfl⟩)
          | (go_at_call 99; refine (hva _).mono ?_; rintro e w' ⟨rfl, rfl⟩))
        refine bodyPost_ret (v := .agg #[.int .i64 1, .int .i64 a, .int .i64 j, .string ⟨#[]⟩, .int .i64 0]) (by simp [results, Tryd.results88, go_sem]) rfl ⟨?_, (Below.refl _ _).alloc (Nat.le_refl _) _⟩
        rw [HF.out, HJ'.out]; rfl
      · have b0 : ((n : Int) == 0) = false := by rw [beq_eq_false_iff_ne]; omega
        have c1 : 1 ≤ n := by omega
        have hh := HHEAD.out (by omega)
        by_cases cm : n ≤ most
        · have hva := fun w => valueOf_any s d n j w hs HJ'.out hjs (by omega) HDIG.out
          by_cases c2 : n = 1
          · have HF : Hid (numTN (s.data.toList.drop d) most kind a d n = ⟨kind, a, d + n, [], valueL ((s.data.toList.drop d).take n)⟩) := by
              have : numeralB ((s.data.toList.drop d).take n) most = true := by rw [HNUM.out]; simp [c2]; omega
              unfold numTN; rw [this]; rfl
            have c2' : n < 2 := by omega
            clear c2 hh c0
            go_wp2_with (first
              | (go_at_call_of 84 (Value.int IntKind.i64 (j : Int)); refine (hbk _).mono ?_; rintro e w' ⟨rfl, rfl⟩)
              | (go_at_call_of 84 (Value.int IntKind.i64 (d : Int)); refine (hbd _).mono ?_; rintro e w' ⟨rfl, rfl⟩)
              | (go_at_call 87; refine (hil _).mono ?_; rintro e w' ⟨rfl, rfl⟩)
              | (go_at_call 99; refine (hva _).mono ?_; rintro e w' ⟨rfl, rfl⟩))
            refine bodyPost_ret (v := .agg #[.int .i64 kind, .int .i64 a, .int .i64 j, .string ⟨#[]⟩, .int .i64 (valueL ((s.data.toList.drop d).take n))]) (by simp [results, Tryd.results88, go_sem]) rfl ⟨?_, (Below.refl _ _).alloc (Nat.le_refl _) _⟩
            rw [HF.out, HJ'.out]; rfl
          · cases e0 : (bA s d == 48) with
            | true =>
              have b48 : (((bA s d).toNat : Int) == 48) = true := by rw [HE48.out]; exact e0
              have HF : Hid (numTN (s.data.toList.drop d) most kind a d n = ⟨1, a, d + n, [], 0⟩) := by
                have h48 : bA s d = 48 := by simpa using e0
                have : numeralB ((s.data.toList.drop d).take n) most = false := by rw [HNUM.out, hh, h48]; simp [c2]
                unfold numTN; rw [this]; rfl
              have c2' : 1 < n := by omega
              clear c2 hh c0 e0
              go_wp2_with (first
                | (go_at_call_of 84 (Value.int IntKind.i64 (j : Int)); refine (hbk _).mono ?_; rintro e w' ⟨rfl, rfl⟩)
                | (go_at_call_of 84 (Value.int IntKind.i64 (d : Int)); refine (hbd _).mono ?_; rintro e w' ⟨rfl, rfl⟩)
                | (go_at_call 87; refine (hil _).mono ?_; rintro e w' ⟨rfl, rfl⟩)
                | (go_at_call 99; refine (hva _).mono ?_; rintro e w' ⟨rfl, rfl⟩))
              refine bodyPost_ret (v := .agg #[.int .i64 1, .int .i64 a, .int .i64 j, .string ⟨#[]⟩, .int .i64 0]) (by simp [results, Tryd.results88, go_sem]) rfl ⟨?_, (Below.refl _ _).alloc (Nat.le_refl _) _⟩
              rw [HF.out, HJ'.out]; rfl
            | false =>
              have b48 : (((bA s d).toNat : Int) == 48) = false := by rw [HE48.out]; exact e0
              have HF : Hid (numTN (s.data.toList.drop d) most kind a d n = ⟨kind, a, d + n, [], valueL ((s.data.toList.drop d).take n)⟩) := by
                have h48 : bA s d ≠ 48 := by simpa using e0
                have : numeralB ((s.data.toList.drop d).take n) most = true := by rw [HNUM.out, hh]; simp [h48, cm]; omega
                unfold numTN; rw [this]; rfl
              have c2' : 1 < n := by omega
              clear c2 hh c0 e0
              go_wp2_with (first
                | (go_at_call_of 84 (Value.int IntKind.i64 (j : Int)); refine (hbk _).mono ?_; rintro e w' ⟨rfl, rfl⟩)
                | (go_at_call_of 84 (Value.int IntKind.i64 (d : Int)); refine (hbd _).mono ?_; rintro e w' ⟨rfl, rfl⟩)
                | (go_at_call 87; refine (hil _).mono ?_; rintro e w' ⟨rfl, rfl⟩)
                | (go_at_call 99; refine (hva _).mono ?_; rintro e w' ⟨rfl, rfl⟩))
              refine bodyPost_ret (v := .agg #[.int .i64 kind, .int .i64 a, .int .i64 j, .string ⟨#[]⟩, .int .i64 (valueL ((s.data.toList.drop d).take n))]) (by simp [results, Tryd.results88, go_sem]) rfl ⟨?_, (Below.refl _ _).alloc (Nat.le_refl _) _⟩
              rw [HF.out, HJ'.out]; rfl
        · have HF : Hid (numTN (s.data.toList.drop d) most kind a d n = ⟨1, a, d + n, [], 0⟩) := by
            have : numeralB ((s.data.toList.drop d).take n) most = false := by rw [HNUM.out]; simp [cm]
            unfold numTN; rw [this]; rfl
          have c2' : 1 < n := by omega
          clear hh c0
          go_wp2_with (first
            | (go_at_call_of 84 (Value.int IntKind.i64 (j : Int)); refine (hbk _).mono ?_; rintro e w' ⟨rfl, rfl⟩)
            | (go_at_call_of 84 (Value.int IntKind.i64 (d : Int)); refine (hbd _).mono ?_; rintro e w' ⟨rfl, rfl⟩)
            | (go_at_call 87; refine (hil _).mono ?_; rintro e w' ⟨rfl, rfl⟩)
            | (go_at_call 99; refine (hva _).mono ?_; rintro e w' ⟨rfl, rfl⟩))
          refine bodyPost_ret (v := .agg #[.int .i64 1, .int .i64 a, .int .i64 j, .string ⟨#[]⟩, .int .i64 0]) (by simp [results, Tryd.results88, go_sem]) rfl ⟨?_, (Below.refl _ _).alloc (Nat.le_refl _) _⟩
          rw [HF.out, HJ'.out]; rfl

end Go.Proofs.YtfnplohaokeljaaDoor

namespace Go.Proofs.YtfnplohaokeljaaDoor
open Go.RowKit

/-- a whole struct stored: the world behind it by what is known of it -/
theorem st_row {P : Program} {ops : Array Oper} {rest : List Oper} {o : Oper} {a : Act} {w : World} {Q : Exit → Act → World → Prop} (hgd : o.guard = none) (ty : TypeId) (x y : Operand) (ho : o.op = .store ty x y)
    (g : Nat) (cells : Array Value) (hx : a.eval x = .pointer (some ⟨g, 0, none⟩)) (hy : a.eval y = .agg cells)
    (t : TypeId) (old : Array Value) (hg : w.heap[g]? = some (.cells old t (0, 0))) (hi : (P.info? ty).map (·.size) = some cells.size)
    (hold : old.size = cells.size) (h1 : cells.all (·.oneCell') = true)
    (h : ∀ W : World, W.heap[g]? = some (.cells cells t (0, 0)) → W.heap.size = w.heap.size → (∀ k, k ≠ g → W.heap[k]? = w.heap[k]?) → W.os = w.os → W.tape = w.tape → W.output = w.output →
      wpList P ops Q rest (a.put o.dst undef) W) : wpList P ops Q (o :: rest) a w := by
  refine wpList_store_row hgd ty x y ho g cells hx hy t old hg hi hold h1 ?_
  exact h _ (setRow_heap w g old cells t (0, 0) hg) (by simp) (fun k hk => setRow_other w g k cells hk) rfl rfl rfl

/-- behind a store into a block that was not there at first -/
theorem below_new {B g : Nat} {w0 w W : World} (hb : Below B w0 w) (hg : B ≤ g) (hs : W.heap.size = w.heap.size) (ho : ∀ k, k ≠ g → W.heap[k]? = w.heap[k]?) (e1 : W.os = w.os) (e2 : W.tape = w.tape) (e3 : W.output = w.output) : Below B w0 W :=
  ⟨e1.trans hb.os, e2.trans hb.tape, e3.trans hb.output, by rw [hs]; exact hb.size, fun k hk => by rw [ho k (by omega)]; exact hb.block k hk⟩
end Go.Proofs.YtfnplohaokeljaaDoor
