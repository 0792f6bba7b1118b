import Derived.Lib.SlBytesRow
import Derived.Lib.BufferRead
import Derived.Test.YtpicaknklgccoaaGreatDoorP23
namespace Go.Proofs.YtpicaknklgccoaaGreatDoor
def Tk.z (t : Tk) : Tk := { t with at_ := 0 }
def sk (l : List UInt8) : List Tk := (tokens l).map Tk.z
def Stop (r : List UInt8) : Prop := ∀ c ∈ r.head?, inB 97 122 c = false ∧ inB 48 57 c = false
open Go.Lib (decDigits)
theorem dec_len3 (u : Nat) (h : u ≤ 999) : (decDigits u).length ≤ 3 := by
 rw [decDigits]; split
 ·simp
 ·rw [decDigits]; split
  ·simp
  ·rw [decDigits]; split
   ·simp
   ·omega
theorem look_snoc' (env : TEnv) (nm s : List UInt8) (T : Ty) : look (env ++ [(nm, T)]) s = if nm = s then some T else look env s := by
 unfold look
 rw [List.reverse_append, List.reverse_singleton, List.singleton_append, List.find?_cons]
 by_cases h : nm = s
 ·subst h; simp
 ·have : (nm == s) = false := by rw [beq_eq_false_iff_ne]; exact h
  simp only [this, if_neg h]
open Go.RowKit
def accZ (pre : List UInt8) (k : Kw) (nm : List UInt8) (ts : List (List UInt8)) (j : Nat) : List UInt8 := pre ++ joinT k nm 0 (ts.take j)
theorem accZ_succ (pre : List UInt8) (k : Kw) (nm : List UInt8) (ts : List (List UInt8)) (j : Nat) (x : List UInt8) (hx : ts[j]? = some x) : accZ pre k nm ts (j + 1) = accZ pre k nm ts j ++ pieceT k nm j x := by
 have hj : j < ts.length := by
  rcases Nat.lt_or_ge j ts.length with h | h
  ·exact h
  ·rw [List.getElem?_eq_none h] at hx; cases hx
 unfold accZ
 rw [List.take_add_one, hx, Option.toList_some, joinT_snoc, List.length_take, Nat.min_eq_left (by omega), Nat.zero_add, List.append_assoc]
theorem joinT_app (k : Kw) (nm : List UInt8) : ∀ (a b : List (List UInt8)) (i : Nat), joinT k nm i (a ++ b) = joinT k nm i a ++ joinT k nm (i + a.length) b
 | [], b, i => by simp [joinT]
 | x :: r, b, i => by
  simp only [List.cons_append, joinT, joinT_app k nm r b (i + 1), List.append_assoc, List.length_cons]
  rw [show i + 1 + r.length = i + (r.length + 1) by omega]
theorem accZ_le (pre : List UInt8) (k : Kw) (nm : List UInt8) (ts : List (List UInt8)) (j : Nat) : (accZ pre k nm ts j).length ≤ pre.length + (joinT k nm 0 ts).length := by
 unfold accZ
 have h : joinT k nm 0 ts = joinT k nm 0 (ts.take j) ++ joinT k nm (0 + (ts.take j).length) (ts.drop j) := by rw [← joinT_app, List.take_append_drop]
 rw [h]; simp
theorem joinT_mem (k : Kw) (nm : List UInt8) : ∀ (ts : List (List UInt8)) (i : Nat) (x : List UInt8), x ∈ ts → x.length + 1 ≤ (joinT k nm i ts).length
 | [], _, _, h => by simp at h
 | t :: r, i, x, h => by
  simp only [joinT, List.length_append]
  rcases List.mem_cons.1 h with h | h
  ·subst h; unfold pieceT; simp; try omega
  ·have := joinT_mem k nm r (i + 1) x h; omega
def newsT : List Nat → List UInt8 → List UInt8
 | [], s => s
 | r :: l, s => [40, 110, 101, 119, 32, 35] ++ (decDigits r ++ (32 :: (newsT l s ++ [41])))
theorem newsT_le : ∀ (l : List Nat) (s : List UInt8), s.length ≤ (newsT l s).length
 | [], _ => Nat.le_refl _
 | r :: l, s => by
  have := newsT_le l s
  simp only [newsT, List.length_append, List.length_cons]; omega
theorem newsT_drop (l : List Nat) (s : List UInt8) : ∀ j, (newsT (l.drop j) s).length ≤ (newsT l s).length
 | 0 => Nat.le_refl _
 | j + 1 => by
  cases l with
  | nil => simp
  | cons r l =>
   have := newsT_drop l s j
   simp only [List.drop_succ_cons, newsT, List.length_append, List.length_cons]; omega
theorem newsT_at (l : List Nat) (s : List UInt8) (j x : Nat) (h : l[j]? = some x) : newsT (l.drop j) s = [40, 110, 101, 119, 32, 35] ++ (decDigits x ++ (32 :: (newsT (l.drop (j + 1)) s ++ [41]))) := by
 have hl := (List.getElem?_eq_some_iff.1 h).1
 have hx := (List.getElem?_eq_some_iff.1 h).2
 rw [List.drop_eq_getElem_cons hl, hx]; rfl
mutual
def PT.rtx (RK : List Nat) (NW : List (List Nat)) : PT → Nat → Nat → List UInt8
 | .num _ s, id, _ => newsT (NW.getD id []) (decDigits (valueL s).toNat)
 | .name _ s, id, _ => newsT (NW.getD id []) s
 | .node _ k nm _ kids, id, site => newsT (NW.getD id []) (40 :: (k.bytes ++ ((if k = .pair then [32, 35] ++ decDigits (RK.getD site 0) else []) ++ (joinT k nm 0 (rtxL RK NW kids (id + 1) (site + if k = .pair then 1 else 0)) ++ [41]))))
def rtxL (RK : List Nat) (NW : List (List Nat)) : List PT → Nat → Nat → List (List UInt8)
 | [], _, _ => []
 | t :: r, id, site => t.rtx RK NW id site :: rtxL RK NW r (id + t.cnt) (site + t.prs)
end
theorem rtxL_at (RK : List Nat) (NW : List (List Nat)) : ∀ (ts : List PT) (id site j : Nat) (x : PT), ts[j]? = some x → (rtxL RK NW ts id site)[j]? = some (x.rtx RK NW (id + cntL (ts.take j)) (site + prsL (ts.take j)))
 | [], _, _, _, _, h => by simp at h
 | t :: r, id, site, 0, x, h => by
  simp only [List.getElem?_cons_zero, Option.some.injEq] at h
  subst h
  simp [rtxL, cntL, prsL]
 | t :: r, id, site, j + 1, x, h => by
  simp only [List.getElem?_cons_succ] at h
  have := rtxL_at RK NW r (id + t.cnt) (site + t.prs) j x h
  simp only [rtxL, List.getElem?_cons_succ, List.take_succ_cons, cntL, prsL, this]
  simp only [Nat.add_assoc]
theorem rtxL_len (RK : List Nat) (NW : List (List Nat)) : ∀ (ts : List PT) (id site : Nat), (rtxL RK NW ts id site).length = ts.length
 | [], _, _ => rfl
 | t :: r, id, site => by simp [rtxL, rtxL_len RK NW r]
def RowI (w : World) (v : Value) (l : List Nat) : Prop := ∃ a cap, v = .slice a l.length cap ∧ ∀ j x : Nat, l[j]? = some x → ∃ g, a = some ⟨g, 0, none⟩ ∧ g < w.heap.size ∧ w.cell? ⟨g, j, none⟩ = some (.int .i64 x)
structure NwIn (w : World) (nv : Value) (NW : List (List Nat)) : Prop where
 row : ∃ g cap, nv = .slice (some ⟨g, 0, none⟩) NW.length cap ∧ g < w.heap.size ∧ ∀ i l, NW[i]? = some l → ∃ v, w.cell? ⟨g, i, none⟩ = some v ∧ RowI w v l
 len : NW.length ≤ 9000
 sm : ∀ l ∈ NW, l.length ≤ 1000 ∧ ∀ x ∈ l, x ≤ 999
def TextC (w0 : World) (RK : List Nat) (NW : List (List Nat)) (cv nv : Value) (t : PT) : Prop := ∀ (id site b : Nat) (F : Nat → Prop), t.cnt ≤ 9000 → t.tame → t.wf → id + t.cnt ≤ NW.length → site + t.prs ≤ RK.length → (t.rtx RK NW id site).length ≤ 180000000 → IsT w0 F t id site b → ∀ w : World, Below w0.heap.size w0 w →
 Calls Tryz.prog 41 #[ptr b, cv, nv] w fun e w' => e = .returned (.string (bs (t.rtx RK NW id site))) ∧ Below w.heap.size w w'
set_option maxRecDepth 100000 in
set_option maxHeartbeats 2000000 in
theorem TextC_num (w0 : World) (hit : ItoaOk w0) (RK : List Nat) (NW : List (List Nat)) (cv nv : Value) (hc : RowI w0 cv RK) (hN : NwIn w0 nv NW) (p : Nat) (s : List UInt8) : TextC w0 RK NW cv nv (.num p s) := by
 intro id site b F hcnt ht hwf hid hsi hlen hT w hw0
 simp only [IsT] at hT
 simp only [PT.tame] at ht
 have hb := hT.2
 have hbw := blk_lt hb
 obtain ⟨ca, ccap, rfl, _⟩ := hc
 obtain ⟨g, cap, rfl, hg, hrow⟩ := hN.row
 simp only [PT.cnt] at hid
 obtain ⟨nl, hnl⟩ : ∃ nl, NW[id]? = some nl := ⟨_, List.getElem?_eq_getElem (by omega)⟩
 obtain ⟨rv, hrv, na, ncap, rfl, hcells⟩ := hrow id nl hnl
 obtain ⟨hnl1, hnl2⟩ := hN.sm nl (List.mem_of_getElem? hnl)
 have hlen9 := hN.len
 have hgd : NW.getD id [] = nl := by rw [List.getD_eq_getElem?_getD, hnl]; rfl
 obtain ⟨n, hn⟩ : ∃ n : Nat, valueL s = n := ⟨(valueL s).toNat, by omega⟩
 simp only [PT.rtx, hgd, hn, Int.toNat_natCast] at hlen ⊢
 have hcell : ∀ W, Below w0.heap.size w0 W → W.cell? ⟨b, 0, none⟩ = some (.string (bs numB)) ∧ W.cell? ⟨b, 3, none⟩ = some (.int .i64 n) ∧ W.cell? ⟨b, 5, none⟩ = some (.int .i64 id) ∧ W.cell? ⟨g, id, none⟩ = some (.slice na nl.length ncap) ∧ b < W.heap.size ∧ g < W.heap.size := fun W hW => by
  have := hW.size
  exact ⟨(hW.cell (p := ⟨b, 0, none⟩) hbw).trans (by rw [blk_cell hb]; rfl), (hW.cell (p := ⟨b, 3, none⟩) hbw).trans (by rw [blk_cell hb, ← hn]; rfl), (hW.cell (p := ⟨b, 5, none⟩) hbw).trans (by rw [blk_cell hb]; rfl), (hW.cell (p := ⟨g, id, none⟩) hg).trans hrv, by omega, by omega⟩
 have hrc : ∀ W, Below w0.heap.size w0 W → ∀ (m : Nat) (hm : m < nl.length), ∃ (x gx : Nat), nl[m]? = some x ∧ x ≤ 999 ∧ na = some ⟨gx, 0, none⟩ ∧ gx < W.heap.size ∧ W.cell? ⟨gx, m, none⟩ = some (.int .i64 x) := fun W hW m hm => by
  obtain ⟨gx, e1, e2, e3⟩ := hcells m nl[m] (List.getElem?_eq_getElem hm)
  have := hW.size
  exact ⟨nl[m], gx, List.getElem?_eq_getElem hm, hnl2 _ (List.getElem_mem hm), e1, by omega, (hW.cell (p := ⟨gx, m, none⟩) e2).trans e3⟩
 have hse : ((bs numB).toList == [110, 117, 109, 98, 101, 114]) = true := by rw [bs_beq0]; decide
 obtain ⟨C, hC⟩ : ∃ C, C = decDigits n := ⟨_, rfl⟩
 have hi := hit n w (by omega) hw0
 rw [← hC] at hi hlen ⊢
 obtain ⟨x0, x3, x5, xg, xb, xgl⟩ := hcell w hw0
 have HC : Hid _ := hcell
 have HR : Hid _ := hrc
 have HIT : Hid _ := hit
 have HW0 : Hid _ := hw0
 have hw0s := hw0.size
 have HI : Hid _ := hi
 have HL : Hid _ := hlen
 have hidl : id < NW.length := by omega
 clear hb hT hit hn hw0 hcell hrc hrow hrv hcells hi hlen hC hgd ht hN hnl hnl2 hwf
 show Calls _ _ #[Value.pointer (some ⟨b, 0, none⟩), _, _] w _
 go_enter Tryz.func41, Tryz.ntmps41
 go_wp2_with fail
 refine Calls.mono HI.out ?_
 rintro _ w1 ⟨rfl, hb1⟩
 obtain ⟨_, _, y5, yg, yb, ygl⟩ := HC.out w1 (HW0.out.trans (hb1.mono hw0s))
 have HB1 : Hid _ := hb1
 clear hb1 HI
 go_wp2_with fail
 go_loopw [7, 9] (fun v i wr => ∃ j : Nat, j ≤ nl.length ∧ i = .int .i64 ((j : Int) - 1) ∧ v = .string (bs (newsT (nl.drop j) C)) ∧ Below w.heap.size w wr) (fun _ i _ => (intOf i + 1).toNat)
 case atStart => exact ⟨nl.length, Nat.le_refl _, by go_num, by rw [List.drop_length]; rfl, HB1.out⟩
 case round =>
  obtain ⟨j, hj, rfl, rfl, hbel⟩ := hrel
  obtain ⟨_, _, z5, zg, zb, zgl⟩ := HC.out wr (HW0.out.trans (hbel.mono hw0s))
  have zl : (bs (newsT (nl.drop j) C)).size ≤ 180000000 := by rw [bs_size]; exact Nat.le_trans (newsT_drop nl C j) HL.out
  have HBL : Hid _ := hbel
  clear hbel
  cases j with
  | zero =>
   go_wp2
   go_ret
   exact ⟨by rw [List.drop_zero]; rfl, HBL.out⟩
  | succ m =>
   obtain ⟨x, gx, hx, hx9, rfl, hgx, hcx⟩ := HR.out wr (HW0.out.trans (HBL.out.mono hw0s)) m (by omega)
   have hix := HIT.out x wr (by omega) (HW0.out.trans (HBL.out.mono hw0s))
   have hnt := newsT_at nl C m x hx
   have hE : ByteArray.mk #[40, 110, 101, 119, 32, 35] ++ bs (decDigits x) ++ ByteArray.mk #[32] ++ bs (newsT (nl.drop (m + 1)) C) ++ ByteArray.mk #[41] = bs (newsT (nl.drop m) C) := by
    rw [show ByteArray.mk #[40, 110, 101, 119, 32, 35] = bs [40, 110, 101, 119, 32, 35] from rfl, show ByteArray.mk #[32] = bs [32] from rfl, show ByteArray.mk #[41] = bs [41] from rfl, bs_app, bs_app, bs_app, bs_app, hnt]
    simp
   have HE : Hid _ := hE
   have HIX : Hid _ := hix
   have z1 : (ByteArray.mk #[40, 110, 101, 119, 32, 35]).size = 6 := rfl
   have z2 : (bs (decDigits x)).size ≤ 3 := by rw [bs_size]; exact dec_len3 x hx9
   have z3 : (ByteArray.mk #[32]).size = 1 := rfl
   have z4 : (ByteArray.mk #[41]).size = 1 := rfl
   have zA : (ByteArray.mk #[40, 110, 101, 119, 32, 35] ++ bs (decDigits x)).size ≤ 9 := by rw [ByteArray.size_append]; omega
   have zB : (ByteArray.mk #[40, 110, 101, 119, 32, 35] ++ bs (decDigits x) ++ ByteArray.mk #[32]).size ≤ 10 := by rw [ByteArray.size_append]; omega
   have zC : (ByteArray.mk #[40, 110, 101, 119, 32, 35] ++ bs (decDigits x) ++ ByteArray.mk #[32] ++ bs (newsT (nl.drop (m + 1)) C)).size ≤ 180000010 := by rw [ByteArray.size_append]; omega
   clear hE hix hnt hx
   have HJ : Hid (m + 1 ≤ nl.length) := hj
   go_wp2_with fail
   refine Calls.mono HIX.out ?_
   rintro _ w2 ⟨rfl, hb2⟩
   have HB2 : Hid _ := HBL.out.trans (hb2.mono HBL.out.size)
   clear hb2 HIX HBL
   go_wp2
   go_roundw
   case rel => exact ⟨m, by have := HJ.out; omega, by go_num, by rw [← HE.out], HB2.out⟩
   case measure => simp [intOf]
set_option maxRecDepth 100000 in
set_option maxHeartbeats 2000000 in
theorem TextC_name (w0 : World) (hit : ItoaOk w0) (RK : List Nat) (NW : List (List Nat)) (cv nv : Value) (hc : RowI w0 cv RK) (hN : NwIn w0 nv NW) (p : Nat) (s : List UInt8) : TextC w0 RK NW cv nv (.name p s) := by
 intro id site b F hcnt ht hwf hid hsi hlen hT w hw0
 simp only [IsT] at hT
 have hb := hT.2
 have hbw := blk_lt hb
 obtain ⟨ca, ccap, rfl, _⟩ := hc
 obtain ⟨g, cap, rfl, hg, hrow⟩ := hN.row
 simp only [PT.cnt] at hid
 obtain ⟨nl, hnl⟩ : ∃ nl, NW[id]? = some nl := ⟨_, List.getElem?_eq_getElem (by omega)⟩
 obtain ⟨rv, hrv, na, ncap, rfl, hcells⟩ := hrow id nl hnl
 obtain ⟨hnl1, hnl2⟩ := hN.sm nl (List.mem_of_getElem? hnl)
 have hlen9 := hN.len
 have hgd : NW.getD id [] = nl := by rw [List.getD_eq_getElem?_getD, hnl]; rfl
 simp only [PT.rtx, hgd] at hlen ⊢
 have hcell : ∀ W, Below w0.heap.size w0 W → W.cell? ⟨b, 0, none⟩ = some (.string (bs nameB)) ∧ W.cell? ⟨b, 2, none⟩ = some (.string (bs s)) ∧ W.cell? ⟨b, 5, none⟩ = some (.int .i64 id) ∧ W.cell? ⟨g, id, none⟩ = some (.slice na nl.length ncap) ∧ b < W.heap.size ∧ g < W.heap.size := fun W hW => by
  have := hW.size
  exact ⟨(hW.cell (p := ⟨b, 0, none⟩) hbw).trans (by rw [blk_cell hb]; rfl), (hW.cell (p := ⟨b, 2, none⟩) hbw).trans (by rw [blk_cell hb]; rfl), (hW.cell (p := ⟨b, 5, none⟩) hbw).trans (by rw [blk_cell hb]; rfl), (hW.cell (p := ⟨g, id, none⟩) hg).trans hrv, by omega, by omega⟩
 have hrc : ∀ W, Below w0.heap.size w0 W → ∀ (m : Nat) (hm : m < nl.length), ∃ (x gx : Nat), nl[m]? = some x ∧ x ≤ 999 ∧ na = some ⟨gx, 0, none⟩ ∧ gx < W.heap.size ∧ W.cell? ⟨gx, m, none⟩ = some (.int .i64 x) := fun W hW m hm => by
  obtain ⟨gx, e1, e2, e3⟩ := hcells m nl[m] (List.getElem?_eq_getElem hm)
  have := hW.size
  exact ⟨nl[m], gx, List.getElem?_eq_getElem hm, hnl2 _ (List.getElem_mem hm), e1, by omega, (hW.cell (p := ⟨gx, m, none⟩) e2).trans e3⟩
 have hse : ((bs nameB).toList == [110, 117, 109, 98, 101, 114]) = false := by rw [bs_beq0]; decide
 have hse2 : ((bs nameB).toList == [110, 97, 109, 101]) = true := by rw [bs_beq0]; decide
 obtain ⟨C, hC⟩ : ∃ C, C = s := ⟨_, rfl⟩
 rw [← hC] at hlen hcell ⊢
 obtain ⟨x0, x3, x5, xg, xb, xgl⟩ := hcell w hw0
 have HC : Hid _ := hcell
 have HR : Hid _ := hrc
 have HIT : Hid _ := hit
 have HW0 : Hid _ := hw0
 have hw0s := hw0.size
 have HL : Hid _ := hlen
 have hidl : id < NW.length := by omega
 clear hb hT hit hw0 hcell hrc hrow hrv hcells hlen hC hgd ht hN hnl hnl2 hwf
 show Calls _ _ #[Value.pointer (some ⟨b, 0, none⟩), _, _] w _
 go_enter Tryz.func41, Tryz.ntmps41
 have HB1 : Hid _ := Below.refl w.heap.size w
 go_wp2_with fail
 go_loopw [7, 9] (fun v i wr => ∃ j : Nat, j ≤ nl.length ∧ i = .int .i64 ((j : Int) - 1) ∧ v = .string (bs (newsT (nl.drop j) C)) ∧ Below w.heap.size w wr) (fun _ i _ => (intOf i + 1).toNat)
 case atStart => exact ⟨nl.length, Nat.le_refl _, by go_num, by rw [List.drop_length]; rfl, HB1.out⟩
 case round =>
  obtain ⟨j, hj, rfl, rfl, hbel⟩ := hrel
  obtain ⟨_, _, z5, zg, zb, zgl⟩ := HC.out wr (HW0.out.trans (hbel.mono hw0s))
  have zl : (bs (newsT (nl.drop j) C)).size ≤ 180000000 := by rw [bs_size]; exact Nat.le_trans (newsT_drop nl C j) HL.out
  have HBL : Hid _ := hbel
  clear hbel
  cases j with
  | zero =>
   go_wp2
   go_ret
   exact ⟨by rw [List.drop_zero]; rfl, HBL.out⟩
  | succ m =>
   obtain ⟨x, gx, hx, hx9, rfl, hgx, hcx⟩ := HR.out wr (HW0.out.trans (HBL.out.mono hw0s)) m (by omega)
   have hix := HIT.out x wr (by omega) (HW0.out.trans (HBL.out.mono hw0s))
   have hnt := newsT_at nl C m x hx
   have hE : ByteArray.mk #[40, 110, 101, 119, 32, 35] ++ bs (decDigits x) ++ ByteArray.mk #[32] ++ bs (newsT (nl.drop (m + 1)) C) ++ ByteArray.mk #[41] = bs (newsT (nl.drop m) C) := by
    rw [show ByteArray.mk #[40, 110, 101, 119, 32, 35] = bs [40, 110, 101, 119, 32, 35] from rfl, show ByteArray.mk #[32] = bs [32] from rfl, show ByteArray.mk #[41] = bs [41] from rfl, bs_app, bs_app, bs_app, bs_app, hnt]
    simp
   have HE : Hid _ := hE
   have HIX : Hid _ := hix
   have z1 : (ByteArray.mk #[40, 110, 101, 119, 32, 35]).size = 6 := rfl
   have z2 : (bs (decDigits x)).size ≤ 3 := by rw [bs_size]; exact dec_len3 x hx9
   have z3 : (ByteArray.mk #[32]).size = 1 := rfl
   have z4 : (ByteArray.mk #[41]).size = 1 := rfl
   have zA : (ByteArray.mk #[40, 110, 101, 119, 32, 35] ++ bs (decDigits x)).size ≤ 9 := by rw [ByteArray.size_append]; omega
   have zB : (ByteArray.mk #[40, 110, 101, 119, 32, 35] ++ bs (decDigits x) ++ ByteArray.mk #[32]).size ≤ 10 := by rw [ByteArray.size_append]; omega
   have zC : (ByteArray.mk #[40, 110, 101, 119, 32, 35] ++ bs (decDigits x) ++ ByteArray.mk #[32] ++ bs (newsT (nl.drop (m + 1)) C)).size ≤ 180000010 := by rw [ByteArray.size_append]; omega
   clear hE hix hnt hx
   have HJ : Hid (m + 1 ≤ nl.length) := hj
   go_wp2_with fail
   refine Calls.mono HIX.out ?_
   rintro _ w2 ⟨rfl, hb2⟩
   have HB2 : Hid _ := HBL.out.trans (hb2.mono HBL.out.size)
   clear hb2 HIX HBL
   go_wp2
   go_roundw
   case rel => exact ⟨m, by have := HJ.out; omega, by go_num, by rw [← HE.out], HB2.out⟩
   case measure => simp [intOf]
theorem prsL_app : ∀ a b : List PT, prsL (a ++ b) = prsL a + prsL b
 | [], b => by simp [prsL]
 | t :: r, b => by simp only [List.cons_append, prsL, prsL_app r b]; omega
set_option maxRecDepth 100000 in
set_option maxHeartbeats 4000000 in
theorem TextC_node (w0 : World) (hit : ItoaOk w0) (RK : List Nat) (NW : List (List Nat)) (cv nv : Value) (hc : RowI w0 cv RK) (hRK : ∀ x ∈ RK, x ≤ 999) (hN : NwIn w0 nv NW) (p : Nat) (k : Kw) (nm rg : List UInt8) (kids : List PT) (hkn : k ≠ .new) (ih : ∀ x ∈ kids, TextC w0 RK NW cv nv x) : TextC w0 RK NW cv nv (.node p k nm rg kids) := by
 intro id site b F hcnt ht hwf hid hsi hlen hT w hw0
 have hT' := hT
 obtain ⟨hb5, hb7⟩ : w0.cell? ⟨b, 5, none⟩ = some (.int .i64 id) ∧ w0.cell? ⟨b, 7, none⟩ = some (.int .i64 site) := by
  simp only [IsT] at hT'
  obtain ⟨_, kv, bl, hb, _⟩ := hT'
  exact ⟨by rw [blk_cell hb]; rfl, by rw [blk_cell hb]; rfl⟩
 obtain ⟨va, vc, ⟨y0, y2, y4⟩, hbw, _⟩ := node_kid hT
 have hk : ∀ (j : Nat) x, kids[j]? = some x → ∃ gk bx, va = some ⟨gk, 0, none⟩ ∧ gk < w0.heap.size ∧ w0.cell? ⟨gk, j, none⟩ = some (ptr bx) ∧ IsT w0 F x (id + 1 + cntL (kids.take j)) ((site + if k = .pair then 1 else 0) + prsL (kids.take j)) bx := fun j x hx => by
  simp only [IsT] at hT
  obtain ⟨hFb, kv, bl, hb, hF, hkv, hts⟩ := hT
  obtain ⟨bx, hbx, hTx⟩ := IsTs.at _ _ _ _ hts j x hx
  have hlt : j < kids.length := (List.getElem?_eq_some_iff.1 hx).1
  have hkve : kv = .slice va kids.length vc := by
   rw [blk_cell hb] at y4
   simpa [exCells] using y4
  obtain ⟨gk, hgk⟩ : ∃ gk, va = some ⟨gk, 0, none⟩ := by
   have h := hkv.2
   rw [hkve] at h
   rcases h with ⟨h, h'⟩ | ⟨g, cap, cur, h, _⟩
   ·omega
   ·simp only [Value.slice.injEq] at h; exact ⟨_, h.1⟩
  have hkc : w0.cell? ⟨gk, j, none⟩ = some (ptr bx) := by
   have h : w0.ownsRow 0 63 1 (.slice (some ⟨gk, 0, none⟩) kids.length vc) kids.length (bl.map ptr) := by rw [← hgk, ← hkve]; exact hkv
   rw [h.cellAt j (by omega)]; simp [hbx]
  exact ⟨gk, bx, hgk, World.block_lt_of_cell? _ _ hkc, hkc, hTx⟩
 obtain ⟨ca, ccap, rfl, hccell⟩ := hc
 obtain ⟨g, cap, rfl, hg, hrow⟩ := hN.row
 simp only [PT.cnt] at hid hcnt
 simp only [PT.prs] at hsi
 simp only [PT.tame] at ht
 simp only [PT.wf] at hwf
 obtain ⟨nl, hnl⟩ : ∃ nl, NW[id]? = some nl := ⟨_, List.getElem?_eq_getElem (by omega)⟩
 obtain ⟨rv, hrv, na, ncap, rfl, hcells⟩ := hrow id nl hnl
 obtain ⟨hnl1, hnl2⟩ := hN.sm nl (List.mem_of_getElem? hnl)
 have hlen9 := hN.len
 have hgd : NW.getD id [] = nl := by rw [List.getD_eq_getElem?_getD, hnl]; rfl
 obtain ⟨ts, hts⟩ : ∃ ts, ts = rtxL RK NW kids (id + 1) (site + if k = .pair then 1 else 0) := ⟨_, rfl⟩
 have htl : ts.length = kids.length := by rw [hts, rtxL_len]
 obtain ⟨pre, hpre⟩ : ∃ pre, pre = 40 :: (k.bytes ++ (if k = .pair then [32, 35] ++ decDigits (RK.getD site 0) else [])) := ⟨_, rfl⟩
 obtain ⟨C, hC⟩ : ∃ C, C = 40 :: (k.bytes ++ ((if k = .pair then [32, 35] ++ decDigits (RK.getD site 0) else []) ++ (joinT k nm 0 ts ++ [41]))) := ⟨_, rfl⟩
 simp only [PT.rtx, hgd, ← hts, ← hC] at hlen ⊢
 have hCl : C.length ≤ 180000000 := Nat.le_trans (newsT_le nl C) hlen
 have hfin : accZ pre k nm ts kids.length ++ [41] = C := by
  rw [hC, hpre]; unfold accZ; rw [← htl, List.take_length]; simp
 have hlenp : pre.length + (joinT k nm 0 ts).length + 1 = C.length := by rw [hC, hpre]; simp only [List.length_append, List.length_cons, List.length_nil]; omega
 have hacc := fun j => accZ_le pre k nm ts j
 have hkl : kids.length ≤ 9000 := by have := len_cntL kids; omega
 have hcell : ∀ W, Below w0.heap.size w0 W → W.cell? ⟨b, 0, none⟩ = some (.string (bs k.bytes)) ∧ W.cell? ⟨b, 2, none⟩ = some (.string (bs nm)) ∧ W.cell? ⟨b, 4, none⟩ = some (.slice va kids.length vc) ∧ W.cell? ⟨b, 5, none⟩ = some (.int .i64 id) ∧ W.cell? ⟨b, 7, none⟩ = some (.int .i64 site) ∧ W.cell? ⟨g, id, none⟩ = some (.slice na nl.length ncap) ∧ b < W.heap.size ∧ g < W.heap.size := fun W hW => by
  have := hW.size
  exact ⟨(hW.cell (p := ⟨b, 0, none⟩) hbw).trans y0, (hW.cell (p := ⟨b, 2, none⟩) hbw).trans y2, (hW.cell (p := ⟨b, 4, none⟩) hbw).trans y4, (hW.cell (p := ⟨b, 5, none⟩) hbw).trans hb5, (hW.cell (p := ⟨b, 7, none⟩) hbw).trans hb7, (hW.cell (p := ⟨g, id, none⟩) hg).trans hrv, by omega, by omega⟩
 have hrc : ∀ W, Below w0.heap.size w0 W → ∀ (m : Nat) (hm : m < nl.length), ∃ (x gx : Nat), nl[m]? = some x ∧ x ≤ 999 ∧ na = some ⟨gx, 0, none⟩ ∧ gx < W.heap.size ∧ W.cell? ⟨gx, m, none⟩ = some (.int .i64 x) := fun W hW m hm => by
  obtain ⟨gx, e1, e2, e3⟩ := hcells m nl[m] (List.getElem?_eq_getElem hm)
  have := hW.size
  exact ⟨nl[m], gx, List.getElem?_eq_getElem hm, hnl2 _ (List.getElem_mem hm), e1, by omega, (hW.cell (p := ⟨gx, m, none⟩) e2).trans e3⟩
 have h1 : ((bs k.bytes).toList == [110, 117, 109, 98, 101, 114]) = false := by rw [bs_beq0]; cases k <;> decide
 have h2 : ((bs k.bytes).toList == [110, 97, 109, 101]) = false := by rw [bs_beq0]; cases k <;> decide
 have h3 : ((bs k.bytes).toList == [110, 101, 119]) = false := by rw [bs_beq0]; cases k <;> first | decide | exact absurd rfl hkn
 obtain ⟨bp, hbp⟩ : ∃ bp, ((bs k.bytes).toList == [112, 97, 105, 114]) = bp := ⟨_, rfl⟩
 obtain ⟨bl, hl⟩ : ∃ bl, ((bs k.bytes).toList == [108, 101, 116]) = bl := ⟨_, rfl⟩
 obtain ⟨bo, ho⟩ : ∃ bo, ((bs k.bytes).toList == [108, 111, 111, 112]) = bo := ⟨_, rfl⟩
 have hP : bp = decide (k = .pair) := by rw [← hbp, bs_beq0]; cases k <;> decide
 have hL : bl = decide (k = .let_) := by rw [← hl, bs_beq0]; cases k <;> decide
 have hO : bo = decide (k = .loop) := by rw [← ho, bs_beq0]; cases k <;> decide
 have hLO : ¬ (bl = true ∧ bo = true) := by rw [hL, hO]; cases k <;> simp
 have hall : ∀ j, (hj : j < kids.length) → ∀ w', Below w0.heap.size w0 w' → ∃ (gk bx : Nat) (tx : List UInt8), va = some ⟨gk, 0, none⟩ ∧ gk < w'.heap.size ∧ w'.cell? ⟨gk, j, none⟩ = some (.pointer (some ⟨bx, 0, none⟩)) ∧ ts[j]? = some tx ∧ tx.length ≤ 180000000 ∧
   Calls Tryz.prog 41 #[.pointer (some ⟨bx, 0, none⟩), .slice ca RK.length ccap, .slice (some ⟨g, 0, none⟩) NW.length cap] w' (fun e w'' => e = .returned (.string (bs tx)) ∧ Below w'.heap.size w' w'') := by
  intro j hj w' hw'
  have hx : kids[j]? = some kids[j] := List.getElem?_eq_getElem hj
  obtain ⟨gk, bx, hva, hgk, hc, hTx⟩ := hk j _ hx
  have hm := List.getElem_mem hj
  have htx := rtxL_at RK NW kids (id + 1) (site + if k = .pair then 1 else 0) j _ hx
  rw [← hts] at htx
  have hmt := joinT_mem k nm ts 0 _ (List.mem_of_getElem? htx)
  have hs := hw'.size
  have c1 := cntL_take kids (j + 1)
  have c2 : prsL (kids.take (j + 1)) ≤ prsL kids := by
   have := congrArg prsL (List.take_append_drop (j + 1) kids)
   rw [prsL_app] at this; omega
  rw [List.take_succ_eq_append_getElem hj] at c1 c2
  rw [cntL_snoc] at c1
  rw [prsL_app] at c2
  simp only [prsL, Nat.add_zero] at c2
  exact ⟨gk, bx, _, hva, by omega, (hw'.cell (p := ⟨gk, j, none⟩) hgk).trans hc, htx, by omega, ih _ hm _ _ bx F (by omega) (tameL_mem ht.2 _ hm) (wfL_mem hwf.2 _ hm) (by omega) (by omega) (by omega) hTx w' hw'⟩
 have hkb : k.bytes.length ≤ 4 := by cases k <;> decide
 have hz' : ∀ j, (bs (accZ pre k nm ts j)).size ≤ 180000000 := fun j => by rw [bs_size]; have := hacc j; omega
 obtain ⟨x0, x2, x4, x5, x7, xg, xb, xgl⟩ := hcell w hw0
 have HALL : Hid _ := hall
 have HFIN : Hid _ := hfin
 have HL : Hid _ := hL
 have HO : Hid _ := hO
 have HZ : Hid _ := hz'
 have HC : Hid _ := hcell
 have HR : Hid _ := hrc
 have HIT : Hid _ := hit
 have HW0 : Hid _ := hw0
 have hw0s := hw0.size
 have HLN : Hid _ := hlen
 have hidl : id < NW.length := by omega
 have z1 : (ByteArray.mk #[40]).size = 1 := rfl
 have z2 : (bs k.bytes).size ≤ 4 := by rw [bs_size]; exact hkb
 have z3 : (bs nm).size ≤ 9000 := by rw [bs_size]; exact ht.1
 have zS : (ByteArray.mk #[40] ++ bs k.bytes).size ≤ 5 := by rw [ByteArray.size_append]; omega
 have zH : (ByteArray.mk #[32, 35]).size = 2 := rfl
 have zU : (ByteArray.mk #[40] ++ bs k.bytes ++ ByteArray.mk #[32, 35]).size ≤ 7 := by rw [ByteArray.size_append]; omega
 have e0 : bp = true → ∃ (y gy : Nat), y ≤ 999 ∧ site < RK.length ∧ ca = some ⟨gy, 0, none⟩ ∧ gy < w.heap.size ∧ w.cell? ⟨gy, site, none⟩ = some (.int .i64 y) ∧ ByteArray.mk #[40] ++ bs k.bytes ++ ByteArray.mk #[32, 35] ++ bs (decDigits y) = bs (accZ pre k nm ts 0) := by
  intro h
  rw [hP, decide_eq_true_eq] at h
  rw [if_pos h] at hsi
  have hsl : site < RK.length := by omega
  obtain ⟨gy, e1, e2, e3⟩ := hccell site RK[site] (List.getElem?_eq_getElem hsl)
  refine ⟨RK[site], gy, hRK _ (List.getElem_mem hsl), hsl, e1, by omega, (hw0.cell (p := ⟨gy, site, none⟩) e2).trans e3, ?_⟩
  rw [show ByteArray.mk #[40] = bs [40] from rfl, show ByteArray.mk #[32, 35] = bs [32, 35] from rfl, bs_app, bs_app, bs_app, hpre, if_pos h]
  have : RK.getD site 0 = RK[site] := by rw [List.getD_eq_getElem?_getD, List.getElem?_eq_getElem hsl]; rfl
  rw [this]
  simp [accZ, joinT]
 have e1 : bp = false → ByteArray.mk #[40] ++ bs k.bytes = bs (accZ pre k nm ts 0) := by
  intro h
  rw [hP, decide_eq_false_iff_not] at h
  rw [show ByteArray.mk #[40] = bs [40] from rfl, bs_app, hpre, if_neg h]
  simp [accZ, joinT]
 have E0 : Hid _ := e0
 have E1 : Hid _ := e1
 clear hall hfin hL hO hP hz' hcell hrc hit hw0 hlen e0 e1 hT hT' hk ih ht hwf hb5 hb7 y0 y2 y4 hrow hrv hcells hts hpre hC hacc hlenp hgd hN hnl hnl2 hsi hid hccell hRK hCl
 show Calls _ _ #[Value.pointer (some ⟨b, 0, none⟩), _, _] w _
 go_enter Tryz.func41, Tryz.ntmps41
 cases bp
 case' false =>
  have ee : Hid _ := E1.out rfl
  have HBW : Hid _ := Below.refl w.heap.size w
  clear E0 E1
 case' true =>
  obtain ⟨y, gy, hy9, hsl, rfl, hgy, hcy, he⟩ := E0.out rfl
  have ee : Hid _ := he
  have zR : (bs (decDigits y)).size ≤ 3 := by rw [bs_size]; exact dec_len3 y hy9
  have HIY : Hid _ := HIT.out y w (by omega) HW0.out
  clear E0 E1 he
  go_wp2_with fail
  refine Calls.mono HIY.out ?_
  rintro _ w1 ⟨rfl, hb1⟩
  have HBW : Hid _ := hb1
  obtain ⟨x0', x2', x4', x5', x7', xg', xb', xgl'⟩ := HC.out w1 (HW0.out.trans (hb1.mono hw0s))
  clear hb1 HIY
 all_goals
  go_wp2_with fail
  go_loopw [7, 8] (fun v i wr => ∃ j : Nat, j ≤ kids.length ∧ i = .int .i64 j ∧ v = .string (bs (accZ pre k nm ts j)) ∧ Below w.heap.size w wr) (fun _ i _ => kids.length - (intOf i).toNat)
  case atStart => exact ⟨0, by omega, rfl, by rw [← ee.out], HBW.out⟩
  case round =>
   obtain ⟨j, hj, rfl, rfl, hbel⟩ := hrel
   obtain ⟨q0, q2, q4, q5, q7, qg, qb, qgl⟩ := HC.out wr (HW0.out.trans (hbel.mono hw0s))
   have zA := HZ.out j
   have z4 : (ByteArray.mk #[32]).size = 1 := rfl
   have z5 : (ByteArray.mk #[41]).size = 1 := rfl
   have HBL : Hid _ := hbel
   clear hbel ee HBW
   by_cases hlt : j < kids.length
   ·obtain ⟨gk, bx, tx, rfl, hgk, hck, htx, htl', hcall⟩ := HALL.out j hlt wr (HW0.out.trans (HBL.out.mono hw0s))
    have zB : (bs (accZ pre k nm ts j) ++ ByteArray.mk #[32]).size ≤ 180000001 := by rw [ByteArray.size_append]; omega
    have zC : (bs (accZ pre k nm ts j) ++ ByteArray.mk #[32] ++ bs nm).size ≤ 180009001 := by rw [ByteArray.size_append]; omega
    have zD : (bs (accZ pre k nm ts j) ++ ByteArray.mk #[32] ++ bs nm ++ ByteArray.mk #[32]).size ≤ 180009002 := by rw [ByteArray.size_append]; omega
    have zE : (bs tx).size ≤ 180000000 := by rw [bs_size]; exact htl'
    have hs := accZ_succ pre k nm ts j tx htx
    have eN : ((bl = true ∧ j = 0) ∨ (bo = true ∧ j = 1)) → bs (accZ pre k nm ts j) ++ ByteArray.mk #[32] ++ bs nm ++ ByteArray.mk #[32] ++ bs tx = bs (accZ pre k nm ts (j + 1)) := by
     intro hcd
     rw [HL.out, HO.out, decide_eq_true_eq, decide_eq_true_eq] at hcd
     rw [hs, show ByteArray.mk #[32] = bs [32] from rfl, bs_app, bs_app, bs_app, bs_app]
     unfold pieceT; rw [if_pos hcd]; simp
    have eP : ¬ ((bl = true ∧ j = 0) ∨ (bo = true ∧ j = 1)) → bs (accZ pre k nm ts j) ++ ByteArray.mk #[32] ++ bs tx = bs (accZ pre k nm ts (j + 1)) := by
     intro hcd
     rw [HL.out, HO.out, decide_eq_true_eq, decide_eq_true_eq] at hcd
     rw [hs, show ByteArray.mk #[32] = bs [32] from rfl, bs_app, bs_app]
     unfold pieceT; rw [if_neg hcd]; simp
    have HCC : Hid _ := hcall
    have HEP : Hid ((((bl = true ∧ j = 0) ∨ (bo = true ∧ j = 1)) ∧ bs (accZ pre k nm ts j) ++ ByteArray.mk #[32] ++ bs nm ++ ByteArray.mk #[32] ++ bs tx = bs (accZ pre k nm ts (j + 1))) ∨ (¬ ((bl = true ∧ j = 0) ∨ (bo = true ∧ j = 1)) ∧ bs (accZ pre k nm ts j) ++ ByteArray.mk #[32] ++ bs tx = bs (accZ pre k nm ts (j + 1)))) := by
     by_cases hcd : (bl = true ∧ j = 0) ∨ (bo = true ∧ j = 1)
     ·exact Or.inl ⟨hcd, eN hcd⟩
     ·exact Or.inr ⟨hcd, eP hcd⟩
    clear eN eP hs htx hcall HL HO HZ HALL
    rcases HEP.out with ⟨hcd, he⟩ | ⟨hcd, he⟩
    ·have HEE : Hid _ := he
     clear he HEP
     have hbq : (bl = true ∧ ((j : Int) == 0) = true) ∨ (bl = false ∧ bo = true ∧ ((j : Int) == 1) = true) := by
      rcases hcd with ⟨h1, h2⟩ | ⟨h1, h2⟩
      ·exact Or.inl ⟨h1, by rw [h2]; rfl⟩
      ·right
       refine ⟨?_, h1, by rw [h2]; rfl⟩
       cases bl with
       | false => rfl
       | true => exact absurd ⟨rfl, h1⟩ hLO
     clear hcd hLO
     rcases hbq with ⟨rfl, hqj⟩ | ⟨rfl, rfl, hqj⟩
     all_goals
      go_wp2_with fail
      refine Calls.mono HCC.out ?_
      rintro _ w2 ⟨rfl, hb2⟩
      have HB2 : Hid _ := HBL.out.trans (hb2.mono HBL.out.size)
      clear hb2 HCC
      go_wp2
      go_roundw
      case rel => exact ⟨j + 1, by omega, by go_num, by rw [← HEE.out], HB2.out⟩
      case measure => simp [intOf]; omega
    ·have HEE : Hid _ := he
     have hnl' : ¬ (bl = true ∧ j = 0) := fun h => hcd (Or.inl h)
     have hno : ¬ (bo = true ∧ j = 1) := fun h => hcd (Or.inr h)
     clear he HEP hcd
     have qj0 : j ≠ 0 → ((j : Int) == 0) = false := fun h => by rw [beq_eq_false_iff_ne]; omega
     have qj1 : j ≠ 1 → ((j : Int) == 1) = false := fun h => by rw [beq_eq_false_iff_ne]; omega
     cases bl <;> cases bo <;> first | exact absurd ⟨rfl, rfl⟩ hLO | skip
     all_goals
      clear hLO
      first
      | (have hj0 : j ≠ 0 := fun h => hnl' ⟨rfl, h⟩
         have q6 := qj0 hj0)
      | (have hj1 : j ≠ 1 := fun h => hno ⟨rfl, h⟩
         have q6 := qj1 hj1)
      | skip
      clear hnl' hno qj0 qj1
      go_wp2_with fail
      refine Calls.mono HCC.out ?_
      rintro _ w2 ⟨rfl, hb2⟩
      have HB2 : Hid _ := HBL.out.trans (hb2.mono HBL.out.size)
      clear hb2 HCC
      go_wp2
      go_roundw
      case rel => exact ⟨j + 1, by omega, by go_num, by rw [← HEE.out], HB2.out⟩
      case measure => simp [intOf]; omega
   ·have hjk : j = kids.length := by omega
    subst hjk
    have HFJ : Hid (bs (accZ pre k nm ts kids.length) ++ ByteArray.mk #[41] = bs C) := by rw [← HFIN.out, ← bs_app]; rfl
    clear HALL HL HO HZ HFIN
    go_wp2_with fail
    rw [HFJ.out]
    clear HFJ
    go_loopw [7, 9] (fun v i wr => ∃ j : Nat, j ≤ nl.length ∧ i = .int .i64 ((j : Int) - 1) ∧ v = .string (bs (newsT (nl.drop j) C)) ∧ Below w.heap.size w wr) (fun _ i _ => (intOf i + 1).toNat)
    case atStart => exact ⟨nl.length, Nat.le_refl _, by go_num, by rw [List.drop_length]; rfl, HBL.out⟩
    case round =>
     obtain ⟨j, hj, rfl, rfl, hbel⟩ := hrel
     obtain ⟨_, _, _, z5', _, zg', zb', zgl'⟩ := HC.out wr (HW0.out.trans (hbel.mono hw0s))
     have zl : (bs (newsT (nl.drop j) C)).size ≤ 180000000 := by rw [bs_size]; exact Nat.le_trans (newsT_drop nl C j) HLN.out
     have HBM : Hid _ := hbel
     clear hbel
     cases j with
     | zero =>
      go_wp2
      go_ret
      exact ⟨by rw [List.drop_zero]; rfl, HBM.out⟩
     | succ m =>
      obtain ⟨x, gx, hx, hx9, rfl, hgx, hcx⟩ := HR.out wr (HW0.out.trans (HBM.out.mono hw0s)) m (by omega)
      have hix := HIT.out x wr (by omega) (HW0.out.trans (HBM.out.mono hw0s))
      have hnt := newsT_at nl C m x hx
      have hE : ByteArray.mk #[40, 110, 101, 119, 32, 35] ++ bs (decDigits x) ++ ByteArray.mk #[32] ++ bs (newsT (nl.drop (m + 1)) C) ++ ByteArray.mk #[41] = bs (newsT (nl.drop m) C) := by
       rw [show ByteArray.mk #[40, 110, 101, 119, 32, 35] = bs [40, 110, 101, 119, 32, 35] from rfl, show ByteArray.mk #[32] = bs [32] from rfl, show ByteArray.mk #[41] = bs [41] from rfl, bs_app, bs_app, bs_app, bs_app, hnt]
       simp
      have HE : Hid _ := hE
      have HIX : Hid _ := hix
      have z1 : (ByteArray.mk #[40, 110, 101, 119, 32, 35]).size = 6 := rfl
      have z2 : (bs (decDigits x)).size ≤ 3 := by rw [bs_size]; exact dec_len3 x hx9
      have z3 : (ByteArray.mk #[32]).size = 1 := rfl
      have z4 : (ByteArray.mk #[41]).size = 1 := rfl
      have zA : (ByteArray.mk #[40, 110, 101, 119, 32, 35] ++ bs (decDigits x)).size ≤ 9 := by rw [ByteArray.size_append]; omega
      have zB : (ByteArray.mk #[40, 110, 101, 119, 32, 35] ++ bs (decDigits x) ++ ByteArray.mk #[32]).size ≤ 10 := by rw [ByteArray.size_append]; omega
      have zC : (ByteArray.mk #[40, 110, 101, 119, 32, 35] ++ bs (decDigits x) ++ ByteArray.mk #[32] ++ bs (newsT (nl.drop (m + 1)) C)).size ≤ 180000010 := by rw [ByteArray.size_append]; omega
      clear hE hix hnt hx
      have HJ : Hid (m + 1 ≤ nl.length) := hj
      go_wp2_with fail
      refine Calls.mono HIX.out ?_
      rintro _ w2 ⟨rfl, hb2⟩
      have HB2 : Hid _ := HBM.out.trans (hb2.mono HBM.out.size)
      clear hb2 HIX HBM
      go_wp2
      go_roundw
      case rel => exact ⟨m, by have := HJ.out; omega, by go_num, by rw [← HE.out], HB2.out⟩
      case measure => simp [intOf]
theorem run_memT (lo hi : Int) : ∀ (l : List UInt8) (c : UInt8), c ∈ l.take (run lo hi l) → inB lo hi c = true
 | [], c, h => by simp at h
 | d :: r, c, h => by
  simp only [run] at h
  split at h
  ·rename_i hd
   rw [List.take_succ_cons, List.mem_cons] at h
   rcases h with h | h
   ·rw [h]; exact hd
   ·exact run_memT lo hi r c h
  ·simp at h
theorem dig_fold : ∀ (l : List UInt8) (a : Int), (∀ c ∈ l, inB 48 57 c = true) → 0 ≤ a →
  0 ≤ l.foldl (fun n c => if c = 35 then n else 10 * n + (c.toNat : Int) - 48) a ∧ l.foldl (fun n c => if c = 35 then n else 10 * n + (c.toNat : Int) - 48) a ≤ (a + 1) * ((10 ^ l.length : Nat) : Int) - 1
 | [], a, _, h => by simp; omega
 | c :: r, a, hd, h => by
  have hc := hd c (by simp)
  simp only [inB, Bool.and_eq_true, decide_eq_true_eq] at hc
  have h35 : c ≠ 35 := by intro e; subst e; simp at hc
  have ih := dig_fold r (10 * a + (c.toNat : Int) - 48) (fun x hx => hd x (by simp [hx])) (by omega)
  simp only [List.foldl_cons, if_neg h35, List.length_cons]
  refine ⟨ih.1, Int.le_trans ih.2 ?_⟩
  have e : ((10 ^ (r.length + 1) : Nat) : Int) = 10 * ((10 ^ r.length : Nat) : Int) := by rw [Nat.pow_succ]; omega
  rw [e]
  have hp : (0 : Int) ≤ ((10 ^ r.length : Nat) : Int) := Int.natCast_nonneg _
  have h2 : (10 * a + (c.toNat : Int) - 48 + 1) ≤ (a + 1) * 10 := by omega
  have h3 := Int.mul_le_mul_of_nonneg_right h2 hp
  rw [Int.mul_assoc] at h3
  omega
def TkTame (t : Tk) : Prop := (t.c = .num → 0 ≤ valueL t.s ∧ valueL t.s ≤ 9999) ∧ (t.c = .nam → t.s.length ≤ 9000)
theorem tok_tame (l : List UInt8) : ((tokenOf l).2 = .num → 0 ≤ valueL (l.take (tokenOf l).1) ∧ valueL (l.take (tokenOf l).1) ≤ 9999) ∧ ((tokenOf l).2 = .nam → (tokenOf l).1 ≤ 9000) := by
 unfold tokenOf
 split
 ·refine ⟨fun h => ?_, fun h => ?_⟩
  ·simp only [wordCl] at h
   split at h
   ·simp at h
   ·split at h <;> simp at h
  ·simp only [wordCl] at h
   split at h
   ·simp at h
   ·split at h
    ·simp only; omega
    ·simp at h
 ·split
  ·refine ⟨fun h => ?_, fun h => ?_⟩
   ·simp only at h
    split at h
    ·rename_i hn
     simp only [numeralB, Bool.and_eq_true, decide_eq_true_eq] at hn
     have hf := dig_fold (l.take (run 48 57 l)) 0 (fun c hc => run_memT 48 57 l c hc) (by omega)
     have hp : 10 ^ (l.take (run 48 57 l)).length ≤ 10 ^ 4 := Nat.pow_le_pow_right (by omega) hn.1.2
     unfold valueL
     simp only
     omega
    ·simp at h
   ·simp only at h
    split at h <;> simp at h
  ·split
   ·simp
   ·split
    ·refine ⟨fun h => ?_, fun h => ?_⟩ <;> (simp only at h; split at h <;> simp at h)
    ·refine ⟨fun h => ?_, fun _ => by simp⟩
     simp only at h
     split at h
     ·simp at h
     ·split at h <;> simp at h
theorem tokens_tame (l : List UInt8) : ∀ t ∈ tokens l, TkTame t := by
 intro t ht
 obtain ⟨l', _, hs, hc⟩ := toks_mem _ _ _ t ht
 have h := tok_tame l'
 unfold TkTame
 rw [hs, hc]
 exact ⟨h.1, fun e => by have := h.2 e; simp; omega⟩
mutual
theorem PE.tame {placed : Bool} : ∀ {l : List Tk} {e : PT} {r : List Tk}, PE placed l e r → (∀ t ∈ l, TkTame t) → e.tame ∧ ∀ t ∈ r, TkTame t
 | _, _, _, .num (t := t) h, ha => ⟨by simp only [PT.tame]; exact (ha t (by simp)).1 h, fun x hx => ha x (by simp [hx])⟩
 | _, _, _, .name (t := t) h, ha => ⟨by simp only [PT.tame]; exact (ha t (by simp)).2 h, fun x hx => ha x (by simp [hx])⟩
 | _, _, _, .node _ _ _ h4, ha => by
  have h := PW.tame h4 (fun x hx => ha x (by simp [hx]))
  exact ⟨by simp only [PT.tame]; exact ⟨h.1, h.2.1⟩, h.2.2⟩
theorem PW.tame {placed : Bool} : ∀ {ws : List Wt} {l : List Tk} {nm rg : List UInt8} {kids : List PT} {r : List Tk}, PW placed ws l nm rg kids r → (∀ t ∈ l, TkTame t) → nm.length ≤ 9000 ∧ tameL kids ∧ ∀ t ∈ r, TkTame t
 | _, _, _, _, _, _, .nil, ha => ⟨by simp, by simp [tameL], ha⟩
 | _, _, _, _, _, _, .close _ h1, ha => PW.tame h1 (fun x hx => ha x (by simp [hx]))
 | _, _, _, _, _, _, .name (t := t) h h1, ha => by
  have h' := PW.tame h1 (fun x hx => ha x (by simp [hx]))
  exact ⟨(ha t (by simp)).2 h, h'.2⟩
 | _, _, _, _, _, _, .region _ h1, ha => PW.tame h1 (fun x hx => ha x (by simp [hx]))
 | _, _, _, _, _, _, .e h0 h1, ha => by
  have a := PE.tame h0 ha
  have b := PW.tame h1 a.2
  exact ⟨b.1, by simp only [tameL]; exact ⟨a.1, b.2.1⟩, b.2.2⟩
end
end Go.Proofs.YtpicaknklgccoaaGreatDoor
