import Derived.Test.YtpicaknklgccoabGreatDoorX19
import Derived.Test.YtpicaknklgccoabGreatDoorX14
import Derived.Test.YtpicaknklgccoabGreatDoorX1
import Derived.Test.YtpicaknklgccoabGreatDoorX8
namespace Go.Proofs.YtpicaknklgccoabGreatDoor
open Go.RowKit
open Go.Lib (decDigits)
theorem join_bind (k : Kw) (n : Nat) : ∀ (l : List (List UInt8)) (i : Nat), joinT k (bindN k n) i l = joinT k (nameL n) i l
 | [], _ => rfl
 | x :: r, i => by
  simp only [joinT]
  rw [join_bind k n r (i + 1)]
  congr 1
  unfold pieceT
  split
  ·rename_i h
   unfold bindN
   rw [if_pos (h.elim (fun h => Or.inl h.1) (fun h => Or.inr h.1))]
  ·rfl
def KNode (w : World) (p : Nat) (k : Kw) (n : Nat) (ks : List KE) : Prop := ∃ c : Nat, c < w.heap.size ∧ w.heap[p]? = some (.cells (exV k.bytes n (.slice (some ⟨c, 0, none⟩) ks.length ks.length)) 59 (0, 0)) ∧ ∀ (j : Nat) (y : KE), ks[j]? = some y → ∃ q : Nat, w.cell? ⟨c, j, none⟩ = some (.pointer (some ⟨q, 0, none⟩)) ∧ KIn w y q
theorem knode1 {w : World} {p : Nat} {k : Kw} {a : KE} (h : KIn w (.n1 k a) p) : KNode w p k 0 [a] := by
 obtain ⟨c, pa, h1, h2, h3⟩ := h
 refine ⟨c, blk_lt h2, h1, fun j y hj => ?_⟩
 match j, hj with
 | 0, hj => simp at hj; subst hj; exact ⟨pa, by rw [blk_cell h2]; rfl, h3⟩
 | j + 1, hj => simp at hj
theorem knode2 {w : World} {p : Nat} {k : Kw} {n : Nat} {a b : KE} (h : KIn w (.n2 k n a b) p) : KNode w p k n [a, b] := by
 obtain ⟨c, pa, pb, h1, h2, h3, h4⟩ := h
 refine ⟨c, blk_lt h2, h1, fun j y hj => ?_⟩
 match j, hj with
 | 0, hj => simp at hj; subst hj; exact ⟨pa, by rw [blk_cell h2]; rfl, h3⟩
 | 1, hj => simp at hj; subst hj; exact ⟨pb, by rw [blk_cell h2]; rfl, h4⟩
 | j + 2, hj => simp at hj
theorem knode3 {w : World} {p : Nat} {k : Kw} {n : Nat} {a b d : KE} (h : KIn w (.n3 k n a b d) p) : KNode w p k n [a, b, d] := by
 obtain ⟨c, pa, pb, pd, h1, h2, h3, h4, h5⟩ := h
 refine ⟨c, blk_lt h2, h1, fun j y hj => ?_⟩
 match j, hj with
 | 0, hj => simp at hj; subst hj; exact ⟨pa, by rw [blk_cell h2]; rfl, h3⟩
 | 1, hj => simp at hj; subst hj; exact ⟨pb, by rw [blk_cell h2]; rfl, h4⟩
 | 2, hj => simp at hj; subst hj; exact ⟨pd, by rw [blk_cell h2]; rfl, h5⟩
 | j + 3, hj => simp at hj
set_option maxRecDepth 100000 in
set_option maxHeartbeats 4000000 in
theorem text_node (rg : List UInt8) (x : KE) (k : Kw) (n : Nat) (ks : List KE) (hkn : k ≠ .new) (hn : n ≤ 1000)
  (hpt : (x.pt rg).tidy = 40 :: (k.bytes ++ ((if k = .pair then regT rg else []) ++ (joinT k (nameL n) 0 (ks.map (fun y => (y.pt rg).tidy)) ++ [41]))))
  (hin : ∀ w p, KIn w x p → KNode w p k n ks) (hk3 : ks.length ≤ 3) (ih : ∀ y ∈ ks, KText rg y) : KText rg x := by
 intro p w hx hlen hit
 obtain ⟨c, hc, hb, hkid⟩ := hin w p hx
 have hp := blk_lt hb
 have x0 : w.cell? ⟨p, 0, none⟩ = some (.string (bs k.bytes)) := by rw [blk_cell hb]; rfl
 have x1 : w.cell? ⟨p, 1, none⟩ = some (.int .i64 n) := by rw [blk_cell hb]; rfl
 have x2 : w.cell? ⟨p, 2, none⟩ = some (.slice (some ⟨c, 0, none⟩) ks.length ks.length) := by rw [blk_cell hb]; rfl
 have h1 : ((bs k.bytes).toList == []) = false := by rw [bs_beq0]; cases k <;> decide
 have h2 : ((bs k.bytes).toList == [120]) = false := by rw [bs_beq0]; cases k <;> decide
 obtain ⟨bp, hbp⟩ : ∃ bp, ((bs k.bytes).toList == [112, 97, 105, 114]) = bp := ⟨_, rfl⟩
 obtain ⟨bl, hl⟩ : ∃ bl, ((bs k.bytes).toList == [108, 101, 116]) = bl := ⟨_, rfl⟩
 obtain ⟨bo, ho⟩ : ∃ bo, ((bs k.bytes).toList == [108, 111, 111, 112]) = bo := ⟨_, rfl⟩
 have hP : bp = decide (k = .pair) := by rw [← hbp, bs_beq0]; cases k <;> decide
 have hL : bl = decide (k = .let_) := by rw [← hl, bs_beq0]; cases k <;> decide
 have hO : bo = decide (k = .loop) := by rw [← ho, bs_beq0]; cases k <;> decide
 have hLO : ¬ (bl = true ∧ bo = true) := by rw [hL, hO]; cases k <;> simp
 obtain ⟨ts, hts⟩ : ∃ ts, ts = ks.map (fun y => (y.pt rg).tidy) := ⟨_, rfl⟩
 have htl : ts.length = ks.length := by rw [hts]; simp
 obtain ⟨pre, hpre⟩ : ∃ pre, pre = 40 :: (k.bytes ++ (if k = .pair then regT rg else [])) := ⟨_, rfl⟩
 rw [← hts] at hpt
 have hfin : accZ pre k (nameL n) ts ks.length ++ [41] = (x.pt rg).tidy := by
  rw [hpt, hpre]; unfold accZ; rw [← htl, List.take_length]; simp
 have hlenp : pre.length + (joinT k (nameL n) 0 ts).length + 1 = (x.pt rg).tidy.length := by rw [hpt, hpre]; simp; omega
 have hacc := fun j => accZ_le pre k (nameL n) ts j
 have hall : ∀ j, (hj : j < ks.length) → ∀ w', Below w.heap.size w w' → ∃ (q : Nat) (tx : List UInt8), w'.cell? ⟨c, j, none⟩ = some (.pointer (some ⟨q, 0, none⟩)) ∧ ts[j]? = some tx ∧ tx.length ≤ 100000 ∧
   Calls Tryz.prog 11 #[.pointer (some ⟨q, 0, none⟩), .string (bs (regT rg))] w' (fun e w'' => e = .returned (.string (bs tx)) ∧ Below w'.heap.size w' w'') := by
  intro j hj w' hw'
  obtain ⟨q, hq, hy⟩ := hkid j ks[j] (List.getElem?_eq_getElem hj)
  have htx : ts[j]? = some (ks[j].pt rg).tidy := by rw [hts, List.getElem?_map, List.getElem?_eq_getElem hj]; rfl
  have hm := joinT_mem k (nameL n) ts 0 _ (List.mem_of_getElem? htx)
  exact ⟨q, _, (hw'.cell (p := ⟨c, j, none⟩) hc).trans hq, htx, by omega, ih ks[j] (List.getElem_mem hj) q w' (hy.below hw') (by omega) (fun W hW => hit W (hw'.trans (hW.mono hw'.size)))⟩
 have hnm := fun W => kname_any n hn W
 have hkb : k.bytes.length ≤ 4 := by cases k <;> decide
 have hrl : (regT rg).length ≤ 100000 ∨ k ≠ .pair := by
  by_cases h : k = .pair
  ·left; rw [hpre, if_pos h] at hlenp; simp at hlenp; omega
  ·exact Or.inr h
 have hz : ∀ j, (bs (accZ pre k (nameL n) ts j)).size ≤ 100000 := fun j => by rw [bs_size]; have := hacc j; omega
 have HALL : Hid _ := hall
 have HNM : Hid _ := hnm
 have HFIN : Hid _ := hfin
 have HL : Hid _ := hL
 have HO : Hid _ := hO
 have HZ : Hid _ := hz
 have z1 : (ByteArray.mk #[40]).size = 1 := rfl
 have z2 : (bs k.bytes).size ≤ 4 := by rw [bs_size]; exact hkb
 have z3 : (bs (nameL n)).size = 3 := rfl
 have zR : bp = true → (bs (regT rg)).size ≤ 100000 := by
  intro h; rw [bs_size]; rw [hP, decide_eq_true_eq] at h
  rcases hrl with h1 | h1
  ·exact h1
  ·exact absurd h h1
 have e0 : bp = true → ByteArray.mk #[40] ++ bs k.bytes ++ bs (regT rg) = bs (accZ pre k (nameL n) ts 0) := by
  intro h
  rw [hP, decide_eq_true_eq] at h
  rw [show ByteArray.mk #[40] = bs [40] from rfl, bs_app, bs_app, hpre, if_pos h]; simp [accZ, joinT]
 have e1 : bp = false → ByteArray.mk #[40] ++ bs k.bytes = bs (accZ pre k (nameL n) ts 0) := by
  intro h
  rw [hP, decide_eq_false_iff_not] at h
  rw [show ByteArray.mk #[40] = bs [40] from rfl, bs_app, hpre, if_neg h]; simp [accZ, joinT]
 have zS : (ByteArray.mk #[40] ++ bs k.bytes).size ≤ 5 := by rw [ByteArray.size_append]; omega
 have E0 : Hid _ := e0
 have E1 : Hid _ := e1
 have ZR : Hid _ := zR
 clear hall hx hkid ih hit hL hO hP hpt hin hfin hpre hts hacc hnm hz e0 e1 zR hb hrl hlen hlenp hkb
 go_enter Tryz.func11, Tryz.ntmps11
 cases bp
 all_goals
  first
  | (have ee0 : Hid _ := E1.out rfl)
  | (have ee0 : Hid _ := E0.out rfl)
  first
  | (have zR := ZR.out rfl)
  | skip
  clear E0 E1 ZR
  go_wp2_with fail
  go_loopw [5, 6] (fun v i wr => ∃ j : Nat, j ≤ ks.length ∧ i = .int .i64 j ∧ v = .string (bs (accZ pre k (nameL n) ts j)) ∧ Below w.heap.size w wr) (fun _ i _ => ks.length - (intOf i).toNat)
  case atStart => exact ⟨0, by omega, rfl, by rw [← ee0.out], Below.refl _ _⟩
  case round =>
   obtain ⟨j, hj, rfl, rfl, hbel⟩ := hrel
   have hsz := hbel.size
   have q0 : wr.cell? ⟨p, 0, none⟩ = some (.string (bs k.bytes)) := (hbel.cell (p := ⟨p, 0, none⟩) hp).trans x0
   have q1 : wr.cell? ⟨p, 1, none⟩ = some (.int .i64 n) := (hbel.cell (p := ⟨p, 1, none⟩) hp).trans x1
   have q2 : wr.cell? ⟨p, 2, none⟩ = some (.slice (some ⟨c, 0, none⟩) ks.length ks.length) := (hbel.cell (p := ⟨p, 2, none⟩) hp).trans x2
   have hpr : p < wr.heap.size := by omega
   have hcr : c < wr.heap.size := by omega
   have zA := HZ.out j
   have z4 : (ByteArray.mk #[32]).size = 1 := rfl
   have z5 : (ByteArray.mk #[41]).size = 1 := rfl
   have HB : Hid _ := hbel
   by_cases hlt : j < ks.length
   ·have hnx : ∀ tx, ts[j]? = some tx → accZ pre k (nameL n) ts (j + 1) = accZ pre k (nameL n) ts j ++ pieceT k (nameL n) j tx := fun tx htx => accZ_succ pre k (nameL n) ts j tx htx
    have HNX : Hid _ := hnx
    have zB : (bs (accZ pre k (nameL n) ts j) ++ ByteArray.mk #[32]).size ≤ 100001 := by rw [ByteArray.size_append]; omega
    have zC : (bs (accZ pre k (nameL n) ts j) ++ ByteArray.mk #[32] ++ bs (nameL n)).size ≤ 100004 := by rw [ByteArray.size_append]; omega
    have zD : (bs (accZ pre k (nameL n) ts j) ++ ByteArray.mk #[32] ++ bs (nameL n) ++ ByteArray.mk #[32]).size ≤ 100005 := by rw [ByteArray.size_append]; omega
    have eN : ((bl = true ∧ j = 0) ∨ (bo = true ∧ j = 1)) → ∀ tx, ts[j]? = some tx → bs (accZ pre k (nameL n) ts j) ++ ByteArray.mk #[32] ++ bs (nameL n) ++ ByteArray.mk #[32] ++ bs tx = bs (accZ pre k (nameL n) ts (j + 1)) := by
     intro hcd tx htx
     rw [HL.out, HO.out, decide_eq_true_eq, decide_eq_true_eq] at hcd
     rw [HNX.out tx htx, show ByteArray.mk #[32] = bs [32] from rfl, bs_app, bs_app, bs_app, bs_app]
     unfold pieceT; rw [if_pos hcd]; simp
    have eP : ¬ ((bl = true ∧ j = 0) ∨ (bo = true ∧ j = 1)) → ∀ tx, ts[j]? = some tx → bs (accZ pre k (nameL n) ts j) ++ ByteArray.mk #[32] ++ bs tx = bs (accZ pre k (nameL n) ts (j + 1)) := by
     intro hcd tx htx
     rw [HL.out, HO.out, decide_eq_true_eq, decide_eq_true_eq] at hcd
     rw [HNX.out tx htx, show ByteArray.mk #[32] = bs [32] from rfl, bs_app, bs_app]
     unfold pieceT; rw [if_neg hcd]; simp
    have EN : Hid _ := eN
    have EP : Hid _ := eP
    clear eN eP hnx hbel
    by_cases hcd : (bl = true ∧ j = 0) ∨ (bo = true ∧ j = 1)
    ·have HEE : Hid _ := EN.out hcd
     clear EN EP HNX HL HO HZ
     have hbr : (bl = true ∧ j = 0) ∨ (bl = false ∧ bo = true ∧ j = 1) := by
      rcases hcd with h | h
      ·exact Or.inl h
      ·right
       refine ⟨?_, h⟩
       cases bl with
       | false => rfl
       | true => exact absurd ⟨rfl, h.1⟩ hLO
     clear hcd hLO
     have hbq : (bl = true ∧ ((j : Int) == 0) = true) ∨ (bl = false ∧ bo = true ∧ ((j : Int) == 1) = true) := by
      rcases hbr with ⟨h1, h2⟩ | ⟨h1, h2, h3⟩
      ·exact Or.inl ⟨h1, by rw [h2]; rfl⟩
      ·exact Or.inr ⟨h1, h2, by rw [h3]; rfl⟩
     clear hbr
     rcases hbq with ⟨rfl, hqj⟩ | ⟨rfl, rfl, hqj⟩
     all_goals
      go_wp2_with fail
      refine Calls.mono (HNM.out _) ?_
      rintro _ w1 ⟨rfl, hb1⟩
      have HB1 : Hid _ := HB.out.trans (hb1.mono hsz)
      have r2 : w1.cell? ⟨p, 2, none⟩ = some (.slice (some ⟨c, 0, none⟩) ks.length ks.length) := (HB1.out.cell (p := ⟨p, 2, none⟩) hp).trans x2
      have hpr1 : p < w1.heap.size := by have := HB1.out.size; omega
      have hcr1 : c < w1.heap.size := by have := HB1.out.size; omega
      obtain ⟨q, tx, hq, htx, htl', hcall⟩ := HALL.out _ hlt w1 HB1.out
      have hfe := HEE.out tx htx
      have zE : (bs tx).size ≤ 100000 := by rw [bs_size]; exact htl'
      have HC : Hid _ := hcall
      have HFE : Hid _ := hfe
      clear hcall hfe htx HEE hb1
      go_wp2_with fail
      refine Calls.mono HC.out ?_
      rintro _ w2 ⟨rfl, hb2⟩
      have HB2 : Hid _ := HB1.out.trans (hb2.mono HB1.out.size)
      clear hb2 HC
      go_wp2
      go_roundw
      case rel => exact ⟨j + 1, by omega, by go_num, by rw [← HFE.out], HB2.out⟩
      case measure => simp [intOf]; omega
    ·have HEE : Hid _ := EP.out hcd
     clear EN EP HNX HL HO HZ
     obtain ⟨q, tx, hq, htx, htl', hcall⟩ := HALL.out j hlt wr HB.out
     have hfe := HEE.out tx htx
     have zE : (bs tx).size ≤ 100000 := by rw [bs_size]; exact htl'
     have HC : Hid _ := hcall
     have HFE : Hid _ := hfe
     have hnl : ¬ (bl = true ∧ j = 0) := fun h => hcd (Or.inl h)
     have hno : ¬ (bo = true ∧ j = 1) := fun h => hcd (Or.inr h)
     clear hcall hfe htx HEE hcd
     have qj0 : j ≠ 0 → ((j : Int) == 0) = false := fun h => by rw [beq_eq_false_iff_ne]; omega
     have qj1 : j ≠ 1 → ((j : Int) == 1) = false := fun h => by rw [beq_eq_false_iff_ne]; omega
     cases bl <;> cases bo <;> first | exact absurd ⟨rfl, rfl⟩ hLO | skip
     all_goals
      clear hLO
      first
      | (have hj0 : j ≠ 0 := fun h => hnl ⟨rfl, h⟩
         have q6 := qj0 hj0)
      | (have hj1 : j ≠ 1 := fun h => hno ⟨rfl, h⟩
         have q6 := qj1 hj1)
      | skip
      clear hnl hno qj0 qj1
      go_wp2_with fail
      refine Calls.mono HC.out ?_
      rintro _ w2 ⟨rfl, hb2⟩
      have HB2 : Hid _ := HB.out.trans (hb2.mono hsz)
      clear hb2 HC
      go_wp2
      go_roundw
      case rel => exact ⟨j + 1, by omega, by go_num, by rw [← HFE.out], HB2.out⟩
      case measure => simp [intOf]; omega
   ·have hjk : j = ks.length := by omega
    subst hjk
    clear HALL HL HO
    go_wp2_with fail
    go_ret
    refine ⟨?_, HB.out⟩
    rw [← HFIN.out, ← bs_app]; rfl
theorem Vl.txt_len (a b : Vl) : (Vl.p a b).txt.length = a.txt.length + b.txt.length + 3 := by simp only [Vl.txt, List.length_cons, List.length_append, List.length_nil]; omega
theorem Vl.has_len : ∀ {v : Vl} {T : Ty}, v.has T → v.txt.length ≤ 7 * T.size + 4
 | .n k, .n, h => by
  simp only [Vl.has] at h
  simp only [Vl.txt, Ty.size]
  rw [decDigits]; split
  ·simp
  ·rw [decDigits]; split
   ·simp
   ·rw [decDigits]; split
    ·simp
    ·rw [decDigits]; split
     ·simp
     ·omega
 | .p a b, .p _ x y, h => by
  simp only [Vl.has] at h
  have h1 := Vl.has_len h.1
  have h2 := Vl.has_len h.2
  rw [Vl.txt_len]
  simp only [Ty.size]; omega
 | .n _, .p _ _ _, h => by simp [Vl.has] at h
 | .p _ _, .n, h => by simp [Vl.has] at h
end Go.Proofs.YtpicaknklgccoabGreatDoor
namespace Go.Proofs.YtpicaknklgccoabGreatDoor
structure MV where
 c : Bool
 n : Int
structure MC where
 a : MV
 b : MV
 home : Nat
 ser : Nat
structure MR where
 num : Int
 ser : Nat
 cells : Nat
structure MM where
 steps : Nat
 fault : Nat
 named : List MV
 cells : List MC
 regs : List MR
 opened : Nat
 live : Int
 most : Int
def v0 : MV := ⟨false, 0⟩
def c0 : MC := ⟨v0, v0, 0, 0⟩
def MM.stop (m : MM) (f : Nat) : MM := if m.fault = 0 then { m with fault := f } else m
def MM.opn (m : MM) (k : Int) : MM := { m with regs := m.regs ++ [⟨k, m.opened, 0⟩], opened := m.opened + 1 }
def MM.fin (m : MM) : MM := match m.regs.getLast? with
 | none => m
 | some r => { m with live := m.live - r.cells, regs := m.regs.dropLast }
def homeF (l : List MR) (k : Int) : Nat → Nat
 | 0 => 0
 | i + 1 => if (l[i + 1]?).map (·.num) = some k then i + 1 else homeF l k i
def MM.home (m : MM) (k : Int) : Nat := homeF m.regs k (m.regs.length - 1)
def MM.newCell (m : MM) (k : Int) (a b : MV) : MV × MM := match m.regs[m.home k]? with
 | none => (v0, m)
 | some r => (⟨true, m.cells.length⟩, { m with regs := m.regs.set (m.home k) { r with cells := r.cells + 1 }, cells := m.cells ++ [⟨a, b, m.home k, r.ser⟩], live := m.live + 1, most := if m.most < m.live + 1 then m.live + 1 else m.most })
def MM.isLive (m : MM) (c : MC) : Bool := match m.regs[c.home]? with
 | some r => r.ser == c.ser
 | none => false
def MM.use (m : MM) (v : MV) : MC × MM :=
 if v.c = false ∨ v.n < 0 ∨ (m.cells.length : Int) ≤ v.n then (c0, m)
 else (m.cells.getD v.n.toNat c0, if m.isLive (m.cells.getD v.n.toNat c0) = true then m else m.stop 13)
def MM.name (m : MM) (i : Int) (v : MV) : MM := if 0 ≤ i ∧ i < m.named.length then { m with named := m.named.set i.toNat v } else m
def MM.look (m : MM) (i : Int) : MV := if i < 0 ∨ (m.named.length : Int) ≤ i then v0 else m.named.getD i.toNat v0
def mBegun (fuel : Nat) (m : MM) (f : MM → MV × MM) : MV × MM :=
 let m1 := if fuel ≤ m.steps then m.stop 12 else m
 if m1.fault ≠ 0 then (v0, m1) else f { m1 with steps := m1.steps + 1 }
def mTurns (i : Int) (f : MM → MV × MM) : Nat → MV → MM → MV × MM
 | 0, x, m => (x, m)
 | k + 1, x, m => if m.fault ≠ 0 then (x, m) else mTurns i f k (f (m.name i x)).1 (f (m.name i x)).2
def mArith (k : Kw) (a b : Int) : Int :=
 if k = .add then Int.tmod (a + b) 10000 else if k = .sub then Int.tmod (a + 10000 - b) 10000 else if a < b then 1 else 0
mutual
def mW (fuel : Nat) : PT → Sc → Nat → MM → MV × MM
 | .num _ s, _, _, m => mBegun fuel m (fun m => (⟨false, valueL s⟩, m))
 | .name _ s, sc, _, m => mBegun fuel m (fun m => (m.look (findS sc s), m))
 | .node _ k nm rg kids, sc, base, m =>
  if k = .new then mNew fuel (valueL rg) kids sc base m
  else mBegun fuel m (fun m =>
   if k = .let_ then mLet fuel nm kids sc base m
   else if k = .if_ then mIf fuel kids sc base m
   else if k = .loop then mLoop fuel nm kids sc base m
   else mOps fuel k (valueL rg) kids sc base m)
def mNew (fuel : Nat) (rg : Int) : List PT → Sc → Nat → MM → MV × MM
 | [a], sc, base, m =>
  let x := mW fuel a sc base (m.opn rg)
  (x.1, x.2.fin)
 | _, _, _, m => (v0, m)
def mLet (fuel : Nat) (nm : List UInt8) : List PT → Sc → Nat → MM → MV × MM
 | [a, b], sc, base, m =>
  let x := mW fuel a sc base m
  mW fuel b (sc ++ [(nm, ((base + a.cnt : Nat) : Int) - 1)]) (base + a.cnt) (x.2.name (((base + a.cnt : Nat) : Int) - 1) x.1)
 | _, _, _, m => (v0, m)
def mIf (fuel : Nat) : List PT → Sc → Nat → MM → MV × MM
 | [a, b, c], sc, base, m =>
  let x := mW fuel a sc base m
  if x.1.n ≠ 0 then mW fuel b sc (base + a.cnt) x.2 else mW fuel c sc (base + a.cnt + b.cnt) x.2
 | _, _, _, m => (v0, m)
def mLoop (fuel : Nat) (nm : List UInt8) : List PT → Sc → Nat → MM → MV × MM
 | [a, b, c], sc, base, m =>
  let x := mW fuel a sc base m
  let y := mW fuel b sc (base + a.cnt) x.2
  mTurns (((base + a.cnt + b.cnt : Nat) : Int) - 1) (fun m => mW fuel c (sc ++ [(nm, ((base + a.cnt + b.cnt : Nat) : Int) - 1)]) (base + a.cnt + b.cnt) m) x.1.n.toNat y.1 y.2
 | _, _, _, m => (v0, m)
def mOps (fuel : Nat) (k : Kw) (rg : Int) : List PT → Sc → Nat → MM → MV × MM
 | [a], sc, base, m =>
  let x := mW fuel a sc base m
  let c := x.2.use x.1
  (if k = .fst then c.1.a else c.1.b, c.2)
 | [a, b], sc, base, m =>
  let x := mW fuel a sc base m
  let y := mW fuel b sc (base + a.cnt) x.2
  if k = .pair then y.2.newCell rg x.1 y.1 else (⟨false, mArith k x.1.n y.1.n⟩, y.2)
 | _, _, _, m => (v0, m)
end
def MV.bd (v : MV) : Prop := -30000 ≤ v.n ∧ v.n ≤ 30000
def sumC : List MR → Nat
 | [] => 0
 | r :: l => r.cells + sumC l
structure MBd (fuel : Nat) (m : MM) : Prop where
 steps : m.steps ≤ fuel
 cells : m.cells.length ≤ m.steps
 live : m.live = sumC m.regs
 sum : sumC m.regs ≤ m.cells.length
 most : 0 ≤ m.most ∧ m.most ≤ m.cells.length
 named : ∀ v ∈ m.named, v.bd
 cell : ∀ c ∈ m.cells, c.a.bd ∧ c.b.bd ∧ c.home ≤ 20000 ∧ c.ser ≤ m.opened
 regs : m.regs.length ≤ 20000
 ser : ∀ r ∈ m.regs, r.ser ≤ m.opened ∧ -1 ≤ r.num ∧ r.num ≤ 9999
theorem v0_bd : v0.bd := by simp [v0, MV.bd]
theorem MM.stop_bd {fuel : Nat} {m : MM} (h : MBd fuel m) (f : Nat) : MBd fuel (m.stop f) := by
 unfold MM.stop; split
 ·exact ⟨h.steps, h.cells, h.live, h.sum, h.most, h.named, h.cell, h.regs, h.ser⟩
 ·exact h
theorem sumC_append (a b : List MR) : sumC (a ++ b) = sumC a + sumC b := by induction a <;> simp [sumC, *]; omega
theorem sumC_set : ∀ (l : List MR) (i : Nat) (r r' : MR), l[i]? = some r → sumC (l.set i r') + r.cells = sumC l + r'.cells
 | [], i, r, r', h => by simp at h
 | a :: l, 0, r, r', h => by simp at h; subst h; simp [sumC]; omega
 | a :: l, i + 1, r, r', h => by
  have := sumC_set l i r r' (by simpa using h)
  simp [sumC]; omega
theorem MM.opn_bd {fuel : Nat} {m : MM} (h : MBd fuel m) (k : Int) (hk : -1 ≤ k ∧ k ≤ 9999) (hr : m.regs.length + 1 ≤ 20000) : MBd fuel (m.opn k) := by
 refine ⟨h.steps, h.cells, ?_, ?_, h.most, h.named, ?_, ?_, ?_⟩
 ·simp [MM.opn, sumC_append, sumC, h.live]
 ·simp [MM.opn, sumC_append, sumC]; exact h.sum
 ·intro c hc
  have := h.cell c hc
  exact ⟨this.1, this.2.1, this.2.2.1, Nat.le_succ_of_le this.2.2.2⟩
 ·simp [MM.opn]; omega
 ·intro r hr
  simp only [MM.opn, List.mem_append, List.mem_singleton] at hr
  rcases hr with hr | rfl
  ·have := h.ser r hr; exact ⟨Nat.le_succ_of_le this.1, this.2⟩
  ·exact ⟨Nat.le_succ _, hk⟩
theorem MM.fin_bd {fuel : Nat} {m : MM} (h : MBd fuel m) : MBd fuel m.fin := by
 cases hl : m.regs.getLast? with
 | none => unfold MM.fin; rw [hl]; exact h
 | some r =>
  have ef : m.fin = { m with live := m.live - r.cells, regs := m.regs.dropLast } := by unfold MM.fin; rw [hl]
  rw [ef]
  have e : m.regs.dropLast ++ [r] = m.regs := by
   rw [List.getLast?_eq_some_iff] at hl
   obtain ⟨ys, hy⟩ := hl
   rw [hy]; simp
  have hs : sumC m.regs = sumC m.regs.dropLast + r.cells := by
   conv => lhs; rw [← e]
   simp [sumC_append, sumC]
  have h1 := h.live
  have h2 := h.sum
  refine ⟨h.steps, h.cells, ?_, ?_, h.most, h.named, h.cell, ?_, ?_⟩
  ·show m.live - r.cells = ((sumC m.regs.dropLast : Nat) : Int); rw [h1, hs]; omega
  ·show sumC m.regs.dropLast ≤ m.cells.length; omega
  ·show m.regs.dropLast.length ≤ _; have := h.regs; simp; omega
  ·intro x hx
   exact h.ser x (by rw [← e]; exact List.mem_append_left _ hx)
theorem MM.newCell_bd {fuel : Nat} {m : MM} (h : MBd fuel m) (k : Int) (a b : MV) (ha : a.bd) (hb : b.bd) (hc : m.cells.length < m.steps) (hf : fuel ≤ 20000) : MBd fuel (m.newCell k a b).2 ∧ (m.newCell k a b).1.bd := by
 cases hr : m.regs[m.home k]? with
 | none => unfold MM.newCell; rw [hr]; exact ⟨h, v0_bd⟩
 | some r =>
  have ef : m.newCell k a b = (⟨true, m.cells.length⟩, { m with regs := m.regs.set (m.home k) { r with cells := r.cells + 1 }, cells := m.cells ++ [⟨a, b, m.home k, r.ser⟩], live := m.live + 1, most := if m.most < m.live + 1 then m.live + 1 else m.most }) := by unfold MM.newCell; rw [hr]
  rw [ef]
  have h1 := h.live
  have h2 := h.sum
  have h3 := h.most
  have hm := List.mem_of_getElem? hr
  have h4 := sumC_set m.regs (m.home k) r { r with cells := r.cells + 1 } hr
  simp only at h4
  have hlt := (List.getElem?_eq_some_iff.1 hr).1
  have hst := h.steps
  refine ⟨⟨h.steps, ?_, ?_, ?_, ?_, h.named, ?_, ?_, ?_⟩, ?_⟩
  ·simp; omega
  ·show m.live + 1 = ((sumC (m.regs.set (m.home k) { r with cells := r.cells + 1 }) : Nat) : Int); rw [h1]; omega
  ·show sumC (m.regs.set (m.home k) { r with cells := r.cells + 1 }) ≤ (m.cells ++ _).length; simp only [List.length_append, List.length_cons, List.length_nil]; omega
  ·show 0 ≤ (if m.most < m.live + 1 then m.live + 1 else m.most) ∧ (if m.most < m.live + 1 then m.live + 1 else m.most) ≤ ((m.cells ++ _).length : Int)
   simp only [List.length_append, List.length_cons, List.length_nil]
   split <;> omega
  ·intro c hc
   simp only [List.mem_append, List.mem_singleton] at hc
   rcases hc with hc | rfl
   ·exact h.cell c hc
   ·refine ⟨ha, hb, ?_, (h.ser r hm).1⟩
    have := h.regs
    show m.home k ≤ 20000
    omega
  ·show (m.regs.set _ _).length ≤ _; rw [List.length_set]; exact h.regs
  ·intro x hx
   rcases List.mem_or_eq_of_mem_set hx with hx | rfl
   ·exact h.ser x hx
   ·exact h.ser r hm
  ·simp only [MV.bd]; omega
theorem getD_mem {α : Type} (l : List α) (i : Nat) (d : α) (h : i < l.length) : l.getD i d ∈ l := by
 rw [List.getD_eq_getElem?_getD, List.getElem?_eq_getElem h]; simp
theorem MM.use_bd {fuel : Nat} {m : MM} (h : MBd fuel m) (v : MV) : MBd fuel (m.use v).2 ∧ (m.use v).1.a.bd ∧ (m.use v).1.b.bd := by
 unfold MM.use
 split
 ·exact ⟨h, v0_bd, v0_bd⟩
 ·rename_i hn
  have hlt : v.n.toNat < m.cells.length := by omega
  have hm := h.cell _ (getD_mem m.cells v.n.toNat c0 hlt)
  refine ⟨?_, hm.1, hm.2.1⟩
  simp only
  split
  ·exact h
  ·exact MM.stop_bd h 13
theorem MM.name_bd {fuel : Nat} {m : MM} (h : MBd fuel m) (i : Int) (v : MV) (hv : v.bd) : MBd fuel (m.name i v) := by
 unfold MM.name
 split
 ·refine ⟨h.steps, h.cells, h.live, h.sum, h.most, ?_, h.cell, h.regs, h.ser⟩
  intro x hx
  rcases List.mem_or_eq_of_mem_set hx with hx | rfl
  ·exact h.named x hx
  ·exact hv
 ·exact h
theorem MM.look_bd {fuel : Nat} {m : MM} (h : MBd fuel m) (i : Int) : (m.look i).bd := by
 unfold MM.look
 split
 ·exact v0_bd
 ·exact h.named _ (getD_mem _ _ _ (by omega))
theorem arith_bd (k : Kw) (a b : Int) : (⟨false, mArith k a b⟩ : MV).bd := by
 unfold MV.bd mArith
 simp only
 have h1 := Int.tmod_lt_of_pos (a + b) (show (0 : Int) < 10000 by omega)
 have h2 := Int.tmod_lt_of_pos (a + 10000 - b) (show (0 : Int) < 10000 by omega)
 have h3 := Int.lt_tmod_of_pos (a + b) (show (0 : Int) < 10000 by omega)
 have h4 := Int.lt_tmod_of_pos (a + 10000 - b) (show (0 : Int) < 10000 by omega)
 split
 ·omega
 ·split
  ·omega
  ·split <;> omega
structure Grow (n : Nat) (m m' : MM) : Prop where
 st : m.steps ≤ m'.steps
 fl : m.fault ≠ 0 → m'.fault ≠ 0 ∧ m'.steps = m.steps
 op : m'.opened + 20000 * m.steps + (if m'.fault = 0 then 20000 else 0) ≤ m.opened + 20000 * m'.steps + n
 rg : m'.regs.length = m.regs.length
 nm : m'.named.length = m.named.length
 cl : m'.cells.length + m.steps ≤ m.cells.length + m'.steps
structure Inner (n s : Nat) (m m' : MM) : Prop where
 st : m.steps ≤ m'.steps
 op : m'.opened + 20000 * m.steps ≤ m.opened + 20000 * m'.steps + n
 rg : m'.regs.length = m.regs.length
 nm : m'.named.length = m.named.length
 cl : m'.cells.length + m.steps ≤ m.cells.length + m'.steps + s
theorem Inner.refl (m : MM) : Inner 0 0 m m := ⟨Nat.le_refl _, by omega, rfl, rfl, by omega⟩
theorem Grow.inner {n : Nat} {m m' : MM} (h : Grow n m m') : Inner n 0 m m' := ⟨h.st, by have := h.op; split at this <;> omega, h.rg, h.nm, by have := h.cl; omega⟩
theorem Inner.trans {n n' s s' : Nat} {m m1 m2 : MM} (h : Inner n s m m1) (h' : Inner n' s' m1 m2) : Inner (n + n') (s + s') m m2 := by
 have := h.st; have := h'.st; have := h.op; have := h'.op; have := h.cl; have := h'.cl
 exact ⟨by omega, by omega, h'.rg.trans h.rg, h'.nm.trans h.nm, by omega⟩
theorem Inner.le {n n' s s' : Nat} {m m1 : MM} (h : Inner n s m m1) (hn : n ≤ n') (hs : s ≤ s') : Inner n' s' m m1 := by
 have := h.op; have := h.cl
 exact ⟨h.st, by omega, h.rg, h.nm, by omega⟩
theorem stop_inner (m : MM) (f : Nat) : Inner 0 0 m (m.stop f) := by
 unfold MM.stop; split
 ·exact ⟨Nat.le_refl _, by simp only; omega, rfl, rfl, by simp only; omega⟩
 ·exact Inner.refl m
theorem use_inner (m : MM) (v : MV) : Inner 0 0 m (m.use v).2 := by
 unfold MM.use; split
 ·exact Inner.refl m
 ·simp only; split
  ·exact Inner.refl m
  ·exact stop_inner m 13
theorem name_inner (m : MM) (i : Int) (v : MV) : Inner 0 0 m (m.name i v) := by
 unfold MM.name; split
 ·exact ⟨Nat.le_refl _, by simp only; omega, rfl, by simp, by simp only; omega⟩
 ·exact Inner.refl m
theorem name_fault (m : MM) (i : Int) (v : MV) : (m.name i v).fault = m.fault ∧ (m.name i v).steps = m.steps := by unfold MM.name; split <;> exact ⟨rfl, rfl⟩
theorem cell_inner (m : MM) (k : Int) (a b : MV) : Inner 0 1 m (m.newCell k a b).2 := by
 cases hr : m.regs[m.home k]? with
 | none => unfold MM.newCell; rw [hr]; exact (Inner.refl m).le (Nat.le_refl _) (by omega)
 | some r =>
  have ef : m.newCell k a b = (⟨true, m.cells.length⟩, { m with regs := m.regs.set (m.home k) { r with cells := r.cells + 1 }, cells := m.cells ++ [⟨a, b, m.home k, r.ser⟩], live := m.live + 1, most := if m.most < m.live + 1 then m.live + 1 else m.most }) := by unfold MM.newCell; rw [hr]
  rw [ef]
  exact ⟨Nat.le_refl _, by simp only; omega, by simp, rfl, by simp; omega⟩
def MKeeps (fuel n : Nat) (m : MM) (x : MV × MM) : Prop := MBd fuel x.2 ∧ x.1.bd ∧ Grow n m x.2
def MKeepsI (fuel n s : Nat) (m : MM) (x : MV × MM) : Prop := MBd fuel x.2 ∧ x.1.bd ∧ Inner n s m x.2
theorem begun_keeps {fuel n : Nat} {m : MM} {f : MM → MV × MM} (h : MBd fuel m) (hf : m.fault = 0 → m.steps < fuel → MBd fuel { m with steps := m.steps + 1 } → MKeepsI fuel n 1 { m with steps := m.steps + 1 } (f { m with steps := m.steps + 1 })) : MKeeps fuel (1 + n) m (mBegun fuel m f) := by
 unfold mBegun
 by_cases hfu : fuel ≤ m.steps
 ·simp only [if_pos hfu]
  have hne : (m.stop 12).fault ≠ 0 := by unfold MM.stop; split <;> simp_all
  simp only [if_pos hne]
  have hi := stop_inner m 12
  have hs : (m.stop 12).steps = m.steps := by unfold MM.stop; split <;> rfl
  refine ⟨MM.stop_bd h 12, v0_bd, ⟨hi.st, fun _ => ⟨hne, hs⟩, ?_, hi.rg, hi.nm, ?_⟩⟩
  ·have := hi.op; rw [if_neg hne]; simp only at this ⊢; omega
  ·have := hi.cl; simp only at this ⊢; omega
 ·simp only [if_neg hfu]
  by_cases hz : m.fault = 0
  ·rw [if_neg (fun hn => hn hz)]
   have hst := h.steps
   have hb : MBd fuel { m with steps := m.steps + 1 } := ⟨by simp only; omega, Nat.le_succ_of_le h.cells, h.live, h.sum, h.most, h.named, h.cell, h.regs, h.ser⟩
   obtain ⟨h1, h2, h3⟩ := hf hz (by omega) hb
   generalize f { m with steps := m.steps + 1 } = y at h1 h2 h3
   have q1 := h3.st; have q2 := h3.op; have q3 := h3.cl
   simp only at q1 q2 q3
   have q4 : (if y.2.fault = 0 then 20000 else 0) ≤ 20000 := by split <;> decide
   exact ⟨h1, h2, ⟨by omega, fun hn => absurd hz hn, by omega, h3.rg, h3.nm, by omega⟩⟩
  ·simp only [if_pos hz]
   exact ⟨h, v0_bd, ⟨Nat.le_refl _, fun _ => ⟨hz, rfl⟩, by simp only [if_neg hz]; omega, rfl, rfl, by simp only; omega⟩⟩
theorem turns_keeps {fuel n : Nat} (hn : n ≤ 20000) {i : Int} {f : MM → MV × MM} {R : Nat} (hf : ∀ m, MBd fuel m → m.regs.length = R → MKeeps fuel n m (f m)) : ∀ (k : Nat) (x : MV) (m : MM), MBd fuel m → x.bd → m.regs.length = R → MKeepsI fuel n 0 m (mTurns i f k x m)
 | 0, x, m, hm, hx, _ => ⟨hm, hx, (Inner.refl m).le (Nat.zero_le _) (Nat.le_refl _)⟩
 | k + 1, x, m, hm, hx, hR => by
  simp only [mTurns]
  split
  ·exact ⟨hm, hx, (Inner.refl m).le (Nat.zero_le _) (Nat.le_refl _)⟩
  ·rename_i hz
   have hz : m.fault = 0 := by simpa using hz
   have hni := name_inner m i x
   obtain ⟨h1, h2, h3⟩ := hf (m.name i x) (MM.name_bd hm i x hx) (hni.rg.trans hR)
   have hnf := name_fault m i x
   have ih := turns_keeps (i := i) hn hf k (f (m.name i x)).1 (f (m.name i x)).2 h1 h2 (h3.rg.trans (hni.rg.trans hR))
   by_cases hf1 : (f (m.name i x)).2.fault = 0
   ·refine ⟨ih.1, ih.2.1, ?_⟩
    have a := ih.2.2
    have q1 := h3.op
    rw [if_pos hf1] at q1
    have q2 := hni.op; have q3 := hni.cl; have q4 := h3.cl; have q5 := h3.st; have q6 := a.op; have q7 := a.cl; have q8 := a.st
    exact ⟨by omega, by omega, a.rg.trans (h3.rg.trans hni.rg), a.nm.trans (h3.nm.trans hni.nm), by omega⟩
   ·have e : mTurns i f k (f (m.name i x)).1 (f (m.name i x)).2 = ((f (m.name i x)).1, (f (m.name i x)).2) := by
     cases k with
     | zero => rfl
     | succ k => simp only [mTurns]; rw [if_pos hf1]
    rw [e]
    have := hni.trans h3.inner
    exact ⟨h1, h2, this.le (by omega) (by omega)⟩
mutual
def PT.rgd : PT → Prop
 | .num _ s => 0 ≤ valueL s ∧ valueL s ≤ 9999
 | .name _ _ => True
 | .node _ _ _ rg kids => (0 ≤ valueL rg ∧ valueL rg ≤ 9999) ∧ rgdL kids
def rgdL : List PT → Prop
 | [] => True
 | t :: r => t.rgd ∧ rgdL r
end
mutual
theorem mW_keeps (fuel : Nat) (hfu : fuel ≤ 20000) : ∀ (t : PT) (sc : Sc) (base : Nat) (m : MM), t.wf → t.rgd → MBd fuel m → m.regs.length + t.cnt ≤ 20000 → MKeeps fuel t.cnt m (mW fuel t sc base m)
 | .num p s, sc, base, m, _, hr, hb, _ => by
  simp only [PT.rgd] at hr
  simp only [mW, PT.cnt]
  exact begun_keeps (n := 0) hb (fun _ _ hb => ⟨hb, by simp only [MV.bd]; omega, (Inner.refl _).le (Nat.le_refl _) (by omega)⟩)
 | .name p s, sc, base, m, _, _, hb, _ => by
  simp only [mW, PT.cnt]
  exact begun_keeps (n := 0) hb (fun _ _ hb => ⟨hb, MM.look_bd hb _, (Inner.refl _).le (Nat.le_refl _) (by omega)⟩)
 | .node p k nm rg kids, sc, base, m, hw, hr, hb, hl => by
  simp only [PT.wf] at hw
  simp only [PT.rgd] at hr
  simp only [PT.cnt] at hl
  simp only [mW, PT.cnt]
  by_cases hk : k = .new
  ·subst hk
   simp only [if_pos]
   exact mNew_keeps fuel hfu (valueL rg) (by omega) kids sc base m hw.1 hw.2 hr.2 hb hl
  ·simp only [if_neg hk]
   refine begun_keeps hb (fun hz hlt hb1 => ?_)
   by_cases hk1 : k = .let_
   ·subst hk1
    simp only [if_pos]
    exact mLet_keeps fuel hfu nm kids sc base _ hw.1 hw.2 hr.2 hb1 (by simp only; omega)
   ·simp only [if_neg hk1]
    by_cases hk2 : k = .if_
    ·subst hk2
     simp only [if_pos]
     exact mIf_keeps fuel hfu kids sc base _ hw.1 hw.2 hr.2 hb1 (by simp only; omega)
    ·simp only [if_neg hk2]
     by_cases hk3 : k = .loop
     ·subst hk3
      simp only [if_pos]
      exact mLoop_keeps fuel hfu nm kids sc base _ hw.1 hw.2 hr.2 hb1 (by simp only; omega)
     ·simp only [if_neg hk3]
      have := hb.cells
      exact mOps_keeps fuel hfu k (valueL rg) kids sc base _ hw.2 hr.2 hb1 (by simp only; omega) (by simp only; omega)
theorem mNew_keeps (fuel : Nat) (hfu : fuel ≤ 20000) (rg : Int) (hrg : -1 ≤ rg ∧ rg ≤ 9999) : ∀ (ts : List PT) (sc : Sc) (base : Nat) (m : MM), ts.length = arity .new → wfL ts → rgdL ts → MBd fuel m → m.regs.length + (1 + cntL ts) ≤ 20000 → MKeeps fuel (1 + cntL ts) m (mNew fuel rg ts sc base m)
 | [a], sc, base, m, _, hw, hr, hb, hl => by
  simp only [wfL] at hw
  simp only [rgdL] at hr
  simp only [cntL] at hl
  simp only [mNew, cntL]
  have h0 := MM.opn_bd hb rg hrg (by omega)
  have ho : (m.opn rg).regs.length = m.regs.length + 1 := by simp [MM.opn]
  obtain ⟨h1, h2, h3⟩ := mW_keeps fuel hfu a sc base (m.opn rg) hw.1 hr.1 h0 (by omega)
  have e1 : (m.opn rg).steps = m.steps := rfl
  have e2 : (m.opn rg).fault = m.fault := rfl
  have e3 : (m.opn rg).opened = m.opened + 1 := rfl
  have e4 : (m.opn rg).named = m.named := rfl
  have e5 : (m.opn rg).cells = m.cells := rfl
  generalize mW fuel a sc base (m.opn rg) = x at h1 h2 h3
  have hrl := h3.rg
  have hfin : x.2.fin.steps = x.2.steps ∧ x.2.fin.fault = x.2.fault ∧ x.2.fin.opened = x.2.opened ∧ x.2.fin.named = x.2.named ∧ x.2.fin.cells = x.2.cells ∧ x.2.fin.regs.length = x.2.regs.length - 1 := by
   unfold MM.fin
   cases hg : x.2.regs.getLast? with
   | none => have : x.2.regs = [] := by simpa using hg
             rw [this] at hrl; simp at hrl; omega
   | some r => exact ⟨rfl, rfl, rfl, rfl, rfl, by simp⟩
  obtain ⟨f1, f2, f3, f4, f5, f6⟩ := hfin
  have g1 := h3.st; have g2 := h3.fl; have g3 := h3.op; have g4 := h3.nm; have g5 := h3.cl
  rw [e1] at g1 g2 g3 g5
  rw [e2] at g2
  rw [e3] at g3
  rw [e4] at g4
  rw [e5] at g5
  refine ⟨MM.fin_bd h1, h2, ⟨by rw [f1]; exact g1, by rw [f1, f2]; exact g2, ?_, by rw [f6]; omega, by rw [f4]; exact g4, by rw [f5, f1]; exact g5⟩⟩
  rw [f3, f2, f1]
  omega
 | [], _, _, _, hl, _, _, _, _ => by simp [arity] at hl
 | _ :: _ :: _, _, _, _, hl, _, _, _, _ => by simp [arity] at hl
theorem mLet_keeps (fuel : Nat) (hfu : fuel ≤ 20000) (nm : List UInt8) : ∀ (ts : List PT) (sc : Sc) (base : Nat) (m : MM), ts.length = arity .let_ → wfL ts → rgdL ts → MBd fuel m → m.regs.length + (1 + cntL ts) ≤ 20000 → MKeepsI fuel (cntL ts) 1 m (mLet fuel nm ts sc base m)
 | [a, b], sc, base, m, _, hw, hr, hb, hl => by
  simp only [wfL] at hw
  simp only [rgdL] at hr
  simp only [cntL] at hl
  simp only [mLet, cntL]
  obtain ⟨h1, h2, h3⟩ := mW_keeps fuel hfu a sc base m hw.1 hr.1 hb (by omega)
  generalize mW fuel a sc base m = x at h1 h2 h3
  have hrl := h3.rg
  have hn := name_inner x.2 (((base + a.cnt : Nat) : Int) - 1) x.1
  have hnr := hn.rg
  obtain ⟨k1, k2, k3⟩ := mW_keeps fuel hfu b (sc ++ [(nm, ((base + a.cnt : Nat) : Int) - 1)]) (base + a.cnt) _ hw.2.1 hr.2.1 (MM.name_bd h1 (((base + a.cnt : Nat) : Int) - 1) x.1 h2) (by omega)
  exact ⟨k1, k2, (h3.inner.trans (hn.trans k3.inner)).le (by omega) (by omega)⟩
 | [], _, _, _, hl, _, _, _, _ => by simp [arity] at hl
 | [_], _, _, _, hl, _, _, _, _ => by simp [arity] at hl
 | _ :: _ :: _ :: _, _, _, _, hl, _, _, _, _ => by simp [arity] at hl
theorem mIf_keeps (fuel : Nat) (hfu : fuel ≤ 20000) : ∀ (ts : List PT) (sc : Sc) (base : Nat) (m : MM), ts.length = arity .if_ → wfL ts → rgdL ts → MBd fuel m → m.regs.length + (1 + cntL ts) ≤ 20000 → MKeepsI fuel (cntL ts) 1 m (mIf fuel ts sc base m)
 | [a, b, c], sc, base, m, _, hw, hr, hb, hl => by
  simp only [wfL] at hw
  simp only [rgdL] at hr
  simp only [cntL] at hl
  simp only [mIf, cntL]
  obtain ⟨h1, h2, h3⟩ := mW_keeps fuel hfu a sc base m hw.1 hr.1 hb (by omega)
  generalize mW fuel a sc base m = x at h1 h2 h3
  have hrl := h3.rg
  split
  ·obtain ⟨k1, k2, k3⟩ := mW_keeps fuel hfu b sc (base + a.cnt) x.2 hw.2.1 hr.2.1 h1 (by omega)
   exact ⟨k1, k2, (h3.inner.trans k3.inner).le (by omega) (by omega)⟩
  ·obtain ⟨k1, k2, k3⟩ := mW_keeps fuel hfu c sc (base + a.cnt + b.cnt) x.2 hw.2.2.1 hr.2.2.1 h1 (by omega)
   exact ⟨k1, k2, (h3.inner.trans k3.inner).le (by omega) (by omega)⟩
 | [], _, _, _, hl, _, _, _, _ => by simp [arity] at hl
 | [_], _, _, _, hl, _, _, _, _ => by simp [arity] at hl
 | [_, _], _, _, _, hl, _, _, _, _ => by simp [arity] at hl
 | _ :: _ :: _ :: _ :: _, _, _, _, hl, _, _, _, _ => by simp [arity] at hl
theorem mLoop_keeps (fuel : Nat) (hfu : fuel ≤ 20000) (nm : List UInt8) : ∀ (ts : List PT) (sc : Sc) (base : Nat) (m : MM), ts.length = arity .loop → wfL ts → rgdL ts → MBd fuel m → m.regs.length + (1 + cntL ts) ≤ 20000 → MKeepsI fuel (cntL ts) 1 m (mLoop fuel nm ts sc base m)
 | [a, b, c], sc, base, m, _, hw, hr, hb, hl => by
  simp only [wfL] at hw
  simp only [rgdL] at hr
  simp only [cntL] at hl
  simp only [mLoop, cntL]
  obtain ⟨h1, h2, h3⟩ := mW_keeps fuel hfu a sc base m hw.1 hr.1 hb (by omega)
  generalize mW fuel a sc base m = x at h1 h2 h3
  have hrl := h3.rg
  obtain ⟨k1, k2, k3⟩ := mW_keeps fuel hfu b sc (base + a.cnt) x.2 hw.2.1 hr.2.1 h1 (by omega)
  generalize mW fuel b sc (base + a.cnt) x.2 = y at k1 k2 k3
  have hrl2 := k3.rg
  obtain ⟨l1, l2, l3⟩ := turns_keeps (n := c.cnt) (by omega) (i := ((base + a.cnt + b.cnt : Nat) : Int) - 1) (R := y.2.regs.length) (f := fun m => mW fuel c (sc ++ [(nm, ((base + a.cnt + b.cnt : Nat) : Int) - 1)]) (base + a.cnt + b.cnt) m)
   (fun m hm hR => mW_keeps fuel hfu c _ (base + a.cnt + b.cnt) m hw.2.2.1 hr.2.2.1 hm (by omega)) x.1.n.toNat y.1 y.2 k1 k2 rfl
  exact ⟨l1, l2, (h3.inner.trans (k3.inner.trans l3)).le (by omega) (by omega)⟩
 | [], _, _, _, hl, _, _, _, _ => by simp [arity] at hl
 | [_], _, _, _, hl, _, _, _, _ => by simp [arity] at hl
 | [_, _], _, _, _, hl, _, _, _, _ => by simp [arity] at hl
 | _ :: _ :: _ :: _ :: _, _, _, _, hl, _, _, _, _ => by simp [arity] at hl
theorem mOps_keeps (fuel : Nat) (hfu : fuel ≤ 20000) (k : Kw) (rg : Int) : ∀ (ts : List PT) (sc : Sc) (base : Nat) (m : MM), wfL ts → rgdL ts → MBd fuel m → m.regs.length + (1 + cntL ts) ≤ 20000 → m.cells.length < m.steps → MKeepsI fuel (cntL ts) 1 m (mOps fuel k rg ts sc base m)
 | [a], sc, base, m, hw, hr, hb, hl, _ => by
  simp only [wfL] at hw
  simp only [rgdL] at hr
  simp only [cntL] at hl
  simp only [mOps, cntL]
  obtain ⟨h1, h2, h3⟩ := mW_keeps fuel hfu a sc base m hw.1 hr.1 hb (by omega)
  generalize mW fuel a sc base m = x at h1 h2 h3
  have hu := MM.use_bd h1 x.1
  refine ⟨hu.1, ?_, (h3.inner.trans (use_inner x.2 x.1)).le (by omega) (by omega)⟩
  simp only
  split
  ·exact hu.2.1
  ·exact hu.2.2
 | [a, b], sc, base, m, hw, hr, hb, hl, hlt => by
  simp only [wfL] at hw
  simp only [rgdL] at hr
  simp only [cntL] at hl
  simp only [mOps, cntL]
  obtain ⟨h1, h2, h3⟩ := mW_keeps fuel hfu a sc base m hw.1 hr.1 hb (by omega)
  generalize mW fuel a sc base m = x at h1 h2 h3
  have hrl := h3.rg
  obtain ⟨k1, k2, k3⟩ := mW_keeps fuel hfu b sc (base + a.cnt) x.2 hw.2.1 hr.2.1 h1 (by omega)
  generalize mW fuel b sc (base + a.cnt) x.2 = y at k1 k2 k3
  have q1 := h3.cl; have q2 := k3.cl
  split
  ·have hc := MM.newCell_bd k1 rg x.1 y.1 h2 k2 (by omega) hfu
   exact ⟨hc.1, hc.2, (h3.inner.trans (k3.inner.trans (cell_inner y.2 rg x.1 y.1))).le (by omega) (by omega)⟩
  ·exact ⟨k1, arith_bd _ _ _, (h3.inner.trans k3.inner).le (by omega) (by omega)⟩
 | [], _, _, m, _, _, hb, _, _ => by simp only [mOps]; exact ⟨hb, v0_bd, (Inner.refl m).le (Nat.zero_le _) (by omega)⟩
 | _ :: _ :: _ :: _, _, _, m, _, _, hb, _, _ => by simp only [mOps]; exact ⟨hb, v0_bd, (Inner.refl m).le (Nat.zero_le _) (by omega)⟩
end
def Fits (cells : List MC) : Ty → MV → Prop
 | .n, v => v.c = false ∧ 0 ≤ v.n ∧ v.n ≤ 9999
 | .p _ A B, v => (v.c = false ∧ 0 ≤ v.n ∧ v.n ≤ 9999) ∨ (v.c = true ∧ ∃ (i : Nat) (c : MC), v.n = i ∧ cells[i]? = some c ∧ Fits cells A c.a ∧ Fits cells B c.b)
theorem fits_v0 (cells : List MC) (T : Ty) : Fits cells T v0 := by cases T <;> simp [Fits, v0]
theorem Fits.mono {cells l : List MC} : ∀ {T : Ty} {v : MV}, Fits cells T v → Fits (cells ++ l) T v
 | .n, _, h => h
 | .p _ A B, _, h => by
  simp only [Fits] at h ⊢
  rcases h with h | ⟨hc, i, c, hv, hi, ha, hb⟩
  ·exact Or.inl h
  ·refine Or.inr ⟨hc, i, c, hv, ?_, Fits.mono ha, Fits.mono hb⟩
   rw [List.getElem?_append_left (List.getElem?_eq_some_iff.1 hi).1]; exact hi
structure Ext (m m' : MM) (base c : Nat) : Prop where
 cells : ∃ l, m'.cells = m.cells ++ l
 len : m'.named.length = m.named.length
 named : ∀ i, (i < base ∨ base + c ≤ i) → m'.named[i]? = m.named[i]?
theorem Ext.refl (m : MM) (base c : Nat) : Ext m m base c := ⟨⟨[], by simp⟩, rfl, fun _ _ => rfl⟩
theorem Ext.trans {m m1 m2 : MM} {b c b1 c1 b2 c2 : Nat} (h : Ext m m1 b1 c1) (h' : Ext m1 m2 b2 c2) (hb1 : b ≤ b1 ∧ b1 + c1 ≤ b + c) (hb2 : b ≤ b2 ∧ b2 + c2 ≤ b + c) : Ext m m2 b c := by
 obtain ⟨l, hl⟩ := h.cells
 obtain ⟨l', hl'⟩ := h'.cells
 exact ⟨⟨l ++ l', by rw [hl', hl, List.append_assoc]⟩, h'.len.trans h.len, fun i hi => (h'.named i (by omega)).trans (h.named i (by omega))⟩
theorem Ext.same {m m' : MM} (h1 : m'.cells = m.cells) (h2 : m'.named = m.named) (base c : Nat) : Ext m m' base c := ⟨⟨[], by simp [h1]⟩, by rw [h2], fun _ _ => by rw [h2]⟩
theorem Fits.on {m m' : MM} {b c : Nat} {T : Ty} {v : MV} (h : Fits m.cells T v) (he : Ext m m' b c) : Fits m'.cells T v := by
 obtain ⟨l, hl⟩ := he.cells
 rw [hl]; exact h.mono
theorem stop_ext (m : MM) (f base c : Nat) : Ext m (m.stop f) base c := by unfold MM.stop; split <;> (refine Ext.same ?_ ?_ _ _ <;> rfl)
theorem use_ext (m : MM) (v : MV) (base c : Nat) : Ext m (m.use v).2 base c := by
 unfold MM.use; split
 ·exact Ext.refl _ _ _
 ·simp only; split
  ·exact Ext.refl _ _ _
  ·exact stop_ext _ _ _ _
theorem cell_ext (m : MM) (k : Int) (a b : MV) (base c : Nat) : Ext m (m.newCell k a b).2 base c := by
 unfold MM.newCell; split
 ·exact Ext.refl _ _ _
 ·exact ⟨⟨_, rfl⟩, rfl, fun _ _ => rfl⟩
theorem name_ext (m : MM) (j : Nat) (v : MV) (base c : Nat) (hj : base ≤ j ∧ j < base + c) : Ext m (m.name (j : Int) v) base c := by
 unfold MM.name; split
 ·refine ⟨⟨[], by simp⟩, by simp, fun i hi => ?_⟩
  simp only [Int.toNat_natCast]
  rw [List.getElem?_set_ne (by omega)]
 ·exact Ext.refl _ _ _
theorem name_at (m : MM) (j : Nat) (v : MV) (hj : j < m.named.length) : (m.name (j : Int) v).named[j]? = some v := by
 unfold MM.name
 rw [if_pos (by omega)]
 simp only [Int.toNat_natCast]
 rw [List.getElem?_set_self hj]
theorem fin_ext (m : MM) (base c : Nat) : Ext m m.fin base c := by unfold MM.fin; split <;> (refine Ext.same ?_ ?_ _ _ <;> rfl)
def EF (named : List MV) (cells : List MC) (sc : Sc) (G : TEnv) (base : Nat) : Prop := ∀ s T, look G s = some T → ∃ (i : Nat) (v : MV), findS sc s = (i : Int) ∧ i < base ∧ named[i]? = some v ∧ Fits cells T v
theorem look_snocF (G : TEnv) (nm : List UInt8) (T : Ty) (s : List UInt8) : look (G ++ [(nm, T)]) s = if nm = s then some T else look G s := by
 unfold look
 rw [List.reverse_append]
 simp only [List.reverse_cons, List.reverse_nil, List.nil_append, List.singleton_append, List.find?_cons]
 by_cases h : nm = s
 ·simp [h]
 ·have : (nm == s) = false := by rw [beq_eq_false_iff_ne]; exact h
  simp [h, this]
theorem findS_snoc (sc : Sc) (nm : List UInt8) (j : Int) (s : List UInt8) : findS (sc ++ [(nm, j)]) s = if nm = s then j else findS sc s := by
 unfold findS
 rw [List.reverse_append]
 simp only [List.reverse_cons, List.reverse_nil, List.nil_append, List.singleton_append, List.find?_cons]
 by_cases h : nm = s
 ·simp [h]
 ·have : (nm == s) = false := by rw [beq_eq_false_iff_ne]; exact h
  simp [h, this]
theorem EF.on {m m' : MM} {sc : Sc} {G : TEnv} {base b c : Nat} (h : EF m.named m.cells sc G base) (he : Ext m m' b c) (hb : base ≤ b) : EF m'.named m'.cells sc G base := by
 intro s T hl
 obtain ⟨i, v, h1, h2, h3, h4⟩ := h s T hl
 exact ⟨i, v, h1, h2, (he.named i (Or.inl (by omega))).trans h3, h4.on he⟩
theorem EF.up {named : List MV} {cells : List MC} {sc : Sc} {G : TEnv} {base b : Nat} (h : EF named cells sc G base) (hb : base ≤ b) : EF named cells sc G b := by
 intro s T hl
 obtain ⟨i, v, h1, h2, h3, h4⟩ := h s T hl
 exact ⟨i, v, h1, by omega, h3, h4⟩
theorem EF.snoc {m : MM} {sc : Sc} {G : TEnv} {base j : Nat} {nm : List UInt8} {T : Ty} {v : MV} (h : EF m.named m.cells sc G base) (hj : base ≤ j) (hl : j < m.named.length) (hv : Fits m.cells T v) : EF (m.name (j : Int) v).named (m.name (j : Int) v).cells (sc ++ [(nm, (j : Int))]) (G ++ [(nm, T)]) (j + 1) := by
 have he := name_ext m j v j 1 (by omega)
 intro s T' hlk
 rw [look_snocF] at hlk
 rw [findS_snoc]
 by_cases hs : nm = s
 ·rw [if_pos hs] at hlk ⊢
  cases hlk
  exact ⟨j, v, rfl, by omega, name_at m j v hl, hv.on he⟩
 ·rw [if_neg hs] at hlk ⊢
  obtain ⟨i, u, h1, h2, h3, h4⟩ := h s T' hlk
  exact ⟨i, u, h1, by omega, (he.named i (Or.inl (by omega))).trans h3, h4.on he⟩
def FitOut (m : MM) (x : MV × MM) (base c : Nat) (T : Ty) : Prop := Ext m x.2 base c ∧ Fits x.2.cells T x.1
theorem begun_fit {fuel : Nat} {m : MM} {f : MM → MV × MM} {base c : Nat} {T : Ty} (h : FitOut { m with steps := m.steps + 1 } (f { m with steps := m.steps + 1 }) base c T) : FitOut m (mBegun fuel m f) base c T := by
 unfold mBegun
 by_cases hfu : fuel ≤ m.steps
 ·simp only [if_pos hfu]
  have hne : (m.stop 12).fault ≠ 0 := by unfold MM.stop; split <;> simp_all
  simp only [if_pos hne]
  exact ⟨stop_ext _ _ _ _, fits_v0 _ _⟩
 ·simp only [if_neg hfu]
  by_cases hz : m.fault = 0
  ·rw [if_neg (fun hn => hn hz)]
   exact ⟨(show Ext m { m with steps := m.steps + 1 } base c from Ext.same (by rfl) (by rfl) base c).trans h.1 (by omega) (by omega), h.2⟩
  ·rw [if_pos hz]
   exact ⟨Ext.refl _ _ _, fits_v0 _ _⟩
theorem turns_fit {base c j : Nat} {T : Ty} {f : MM → MV × MM} {L : Nat} {P : MM → Prop} (hj : base ≤ j ∧ j < base + c) (hP : ∀ m v, P m → Fits m.cells T v → m.named.length = L → FitOut (m.name (j : Int) v) (f (m.name (j : Int) v)) base c T) (hPe : ∀ m m', P m → Ext m m' base c → P m') : ∀ (k : Nat) (v : MV) (m : MM), P m → Fits m.cells T v → m.named.length = L → FitOut m (mTurns (j : Int) f k v m) base c T
 | 0, v, m, _, hv, _ => ⟨Ext.refl _ _ _, hv⟩
 | k + 1, v, m, hm, hv, hL => by
  simp only [mTurns]
  split
  ·exact ⟨Ext.refl _ _ _, hv⟩
  ·have h1 := hP m v hm hv hL
   have he : Ext m (f (m.name (j : Int) v)).2 base c := (name_ext m j v base c hj).trans h1.1 (by omega) (by omega)
   have h2 := turns_fit hj hP hPe k (f (m.name (j : Int) v)).1 (f (m.name (j : Int) v)).2 (hPe m _ hm he) h1.2 (he.len.trans hL)
   exact ⟨he.trans h2.1 (by omega) (by omega), h2.2⟩
end Go.Proofs.YtpicaknklgccoabGreatDoor
