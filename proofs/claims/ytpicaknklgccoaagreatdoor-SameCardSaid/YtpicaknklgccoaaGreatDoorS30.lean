import Derived.Test.YtpicaknklgccoaaGreatDoorS29
set_option maxHeartbeats 4000000
set_option maxRecDepth 100000
namespace Go.Proofs.YtpicaknklgccoaaGreatDoor
open Go.RowKit
open Go.Lib (decDigits)
theorem gL (k : Kw) (n : Nat) : ∀ (l : List (List UInt8)) (i : Nat), bC k (iB k n) i l = bC k (bF n) i l
 | [], _ => rfl
 | x :: r, i => by
  simp only [bC]
  rw [gL k n r (i + 1)]
  congr 1
  unfold cI
  split
  ·rename_i h
   unfold iB
   rw [if_pos (h.elim (fun h => Or.inl h.1) (fun h => Or.inr h.1))]
  ·rfl
def Gj (w : World) (p : Nat) (k : Kw) (n : Nat) (ks : List KE) : Prop := ∃ c : Nat, c < w.heap.size /\ w.heap[p]? = some (.cells (tY k.bytes n (.slice (some ⟨c, 0, none⟩) ks.length ks.length)) 98 (0, 0)) /\ ∀ (j : Nat) (y : KE), ks[j]? = some y -> ∃ q : Nat, w.cell? ⟨c, j, none⟩ = some (.pointer (some ⟨q, 0, none⟩)) /\ eH w y q
theorem LO {w : World} {p : Nat} {k : Kw} {a : KE} (h : eH w (.n1 k a) p) : Gj w p k 0 [a] := by
 obtain ⟨c, pa, h1, h2, h3⟩ := h
 refine ⟨c, af h2, h1, fun j y hj => ?_⟩
 match j, hj with
 | 0, hj => simp at hj; subst hj; exact ⟨pa, by rw [aa h2]; rfl, h3⟩
 | j + 1, hj => simp at hj
theorem ES {w : World} {p : Nat} {k : Kw} {n : Nat} {a b : KE} (h : eH w (.n2 k n a b) p) : Gj w p k n [a, b] := by
 obtain ⟨c, pa, pb, h1, h2, h3, h4⟩ := h
 refine ⟨c, af h2, h1, fun j y hj => ?_⟩
 match j, hj with
 | 0, hj => simp at hj; subst hj; exact ⟨pa, by rw [aa h2]; rfl, h3⟩
 | 1, hj => simp at hj; subst hj; exact ⟨pb, by rw [aa h2]; rfl, h4⟩
 | j + 2, hj => simp at hj
theorem LP {w : World} {p : Nat} {k : Kw} {n : Nat} {a b d : KE} (h : eH w (.n3 k n a b d) p) : Gj w p k n [a, b, d] := by
 obtain ⟨c, pa, pb, pd, h1, h2, h3, h4, h5⟩ := h
 refine ⟨c, af h2, h1, fun j y hj => ?_⟩
 match j, hj with
 | 0, hj => simp at hj; subst hj; exact ⟨pa, by rw [aa h2]; rfl, h3⟩
 | 1, hj => simp at hj; subst hj; exact ⟨pb, by rw [aa h2]; rfl, h4⟩
 | 2, hj => simp at hj; subst hj; exact ⟨pd, by rw [aa h2]; rfl, h5⟩
 | j + 3, hj => simp at hj
theorem jh (rg : List UInt8) (x : KE) (k : Kw) (n : Nat) (ks : List KE) (hkn : k ≠ .new) (hn : n <= 1000)
  (Yc : (x.pt rg).tidy = 40 :: (k.bytes ++ ((if k = .pair then iz rg else []) ++ (bC k (bF n) 0 (ks.map (fun y => (y.pt rg).tidy)) ++ [41]))))
  (hin : ∀ w p, eH w x p -> Gj w p k n ks) (pL : ks.length <= 3) (ih : ∀ y ∈ ks, CK rg y) : CK rg x := by
 intro p w hx hlen hit
 obtain ⟨c, hc, hb, Ko⟩ := hin w p hx
 have hp := af hb
 have x0 : w.cell? ⟨p, 0, none⟩ = some (.string (bs k.bytes)) := by rw [aa hb]; rfl
 have x1 : w.cell? ⟨p, 1, none⟩ = some (.int .i64 n) := by rw [aa hb]; rfl
 have x2 : w.cell? ⟨p, 2, none⟩ = some (.slice (some ⟨c, 0, none⟩) ks.length ks.length) := by rw [aa hb]; rfl
 have h1 : ((bs k.bytes).toList == []) = false := by rw [aR]; cases k <;> decide
 have h2 : ((bs k.bytes).toList == [120]) = false := by rw [aR]; cases k <;> decide
 obtain ⟨bp, hbp⟩ : ∃ bp, ((bs k.bytes).toList == [112, 97, 105, 114]) = bp := ⟨_, rfl⟩
 obtain ⟨bl, hl⟩ : ∃ bl, ((bs k.bytes).toList == [108, 101, 116]) = bl := ⟨_, rfl⟩
 obtain ⟨bo, ho⟩ : ∃ bo, ((bs k.bytes).toList == [108, 111, 111, 112]) = bo := ⟨_, rfl⟩
 have hP : bp = decide (k = .pair) := by rw [<- hbp, aR]; cases k <;> decide
 have hL : bl = decide (k = .bb) := by rw [<- hl, aR]; cases k <;> decide
 have hO : bo = decide (k = .loop) := by rw [<- ho, aR]; cases k <;> decide
 have Yd : ¬ (bl = true /\ bo = true) := by rw [hL, hO]; cases k <;> simp
 obtain ⟨ts, hts⟩ : ∃ ts, ts = ks.map (fun y => (y.pt rg).tidy) := ⟨_, rfl⟩
 have htl : ts.length = ks.length := by rw [hts]; simp
 obtain ⟨pre, hpre⟩ : ∃ pre, pre = 40 :: (k.bytes ++ (if k = .pair then iz rg else [])) := ⟨_, rfl⟩
 rw [<- hts] at Yc
 have hfin : lp pre k (bF n) ts ks.length ++ [41] = (x.pt rg).tidy := by
  rw [Yc, hpre]; unfold lp; rw [<- htl, List.take_length]; simp
 have LQ : pre.length + (bC k (bF n) 0 ts).length + 1 = (x.pt rg).tidy.length := by rw [Yc, hpre]; simp; omega
 have Kv := fun j => Pb pre k (bF n) ts j
 have hall : ∀ j, (hj : j < ks.length) -> ∀ w', Below w.heap.size w w' -> ∃ (q : Nat) (tx : List UInt8), w'.cell? ⟨c, j, none⟩ = some (.pointer (some ⟨q, 0, none⟩)) /\ ts[j]? = some tx /\ tx.length <= 100000 /\
   Calls Tryz.prog 22 #[.pointer (some ⟨q, 0, none⟩), .string (bs (iz rg))] w' (fun e w'' => e = .returned (.string (bs tx)) /\ Below w'.heap.size w' w'') := by
  intro j hj w' hw'
  obtain ⟨q, hq, hy⟩ := Ko j ks[j] (List.getElem?_eq_getElem hj)
  have Av : ts[j]? = some (ks[j].pt rg).tidy := by rw [hts, List.getElem?_map, List.getElem?_eq_getElem hj]; rfl
  have hm := zg k (bF n) ts 0 _ (List.mem_of_getElem? Av)
  exact ⟨q, _, (hw'.cell (p := ⟨c, j, none⟩) hc).trans hq, Av, by omega, ih ks[j] (List.getElem_mem hj) q w' (hy.below hw') (by omega) (fun W hW => hit W (hw'.trans (hW.mono hw'.size)))⟩
 have hnm := fun W => zb n hn W
 have hkb : k.bytes.length <= 4 := by cases k <;> decide
 have hrl : (iz rg).length <= 100000 \/ k ≠ .pair := by
  by_cases h : k = .pair
  ·left; rw [hpre, if_pos h] at LQ; simp at LQ; omega
  ·exact Or.inr h
 have hz : ∀ j, (bs (lp pre k (bF n) ts j)).size <= 100000 := fun j => by rw [dm]; have := Kv j; omega
 have SR : Hid _ := hall
 have QH : Hid _ := hnm
 have KX : Hid _ := hfin
 have HL : Hid _ := hL
 have HO : Hid _ := hO
 have HZ : Hid _ := hz
 have z1 : (ByteArray.mk #[40]).size = 1 := rfl
 have z2 : (bs k.bytes).size <= 4 := by rw [dm]; exact hkb
 have z3 : (bs (bF n)).size = 3 := rfl
 have zR : bp = true -> (bs (iz rg)).size <= 100000 := by
  intro h; rw [dm]; rw [hP, decide_eq_true_eq] at h
  rcases hrl with h1 | h1
  ·exact h1
  ·exact absurd h h1
 have e0 : bp = true -> ByteArray.mk #[40] ++ bs k.bytes ++ bs (iz rg) = bs (lp pre k (bF n) ts 0) := by
  intro h
  rw [hP, decide_eq_true_eq] at h
  rw [show ByteArray.mk #[40] = bs [40] from rfl, fg, fg, hpre, if_pos h]; simp [lp, bC]
 have e1 : bp = false -> ByteArray.mk #[40] ++ bs k.bytes = bs (lp pre k (bF n) ts 0) := by
  intro h
  rw [hP, decide_eq_false_iff_not] at h
  rw [show ByteArray.mk #[40] = bs [40] from rfl, fg, hpre, if_neg h]; simp [lp, bC]
 have zS : (ByteArray.mk #[40] ++ bs k.bytes).size <= 5 := by rw [ByteArray.size_append]; omega
 have E0 : Hid _ := e0
 have E1 : Hid _ := e1
 have ZR : Hid _ := zR
 clear hall hx Ko ih hit hL hO hP Yc hin hfin hpre hts Kv hnm hz e0 e1 zR hb hrl hlen LQ hkb
 go_enter Tryz.func22, Tryz.ntmps22
 cases bp
 all_goals
  first
  | (have ee0 : Hid _ := E1.out rfl)
  | (have ee0 : Hid _ := E0.out rfl)
  first
  | (have zR := ZR.out rfl)
  | skip
  clear E0 E1 ZR
  go_wp2_with fail
  go_loopw [5, 6] (fun v i wr => ∃ j : Nat, j <= ks.length /\ i = .int .i64 j /\ v = .string (bs (lp pre k (bF n) ts j)) /\ Below w.heap.size w wr) (fun _ i _ => ks.length - (intOf i).toNat)
  case atStart => exact ⟨0, by omega, rfl, by rw [<- ee0.out], Below.refl _ _⟩
  case round =>
   obtain ⟨j, hj, rfl, rfl, hbel⟩ := hrel
   have hsz := hbel.size
   have q0 : wr.cell? ⟨p, 0, none⟩ = some (.string (bs k.bytes)) := (hbel.cell (p := ⟨p, 0, none⟩) hp).trans x0
   have q1 : wr.cell? ⟨p, 1, none⟩ = some (.int .i64 n) := (hbel.cell (p := ⟨p, 1, none⟩) hp).trans x1
   have q2 : wr.cell? ⟨p, 2, none⟩ = some (.slice (some ⟨c, 0, none⟩) ks.length ks.length) := (hbel.cell (p := ⟨p, 2, none⟩) hp).trans x2
   have jm : p < wr.heap.size := by omega
   have Hv : c < wr.heap.size := by omega
   have zA := HZ.out j
   have z4 : (ByteArray.mk #[32]).size = 1 := rfl
   have z5 : (ByteArray.mk #[41]).size = 1 := rfl
   have HB : Hid _ := hbel
   by_cases hlt : j < ks.length
   ·have jV : ∀ tx, ts[j]? = some tx -> lp pre k (bF n) ts (j + 1) = lp pre k (bF n) ts j ++ cI k (bF n) j tx := fun tx Av => IP pre k (bF n) ts j tx Av
    have o7 : Hid _ := jV
    have zB : (bs (lp pre k (bF n) ts j) ++ ByteArray.mk #[32]).size <= 100001 := by rw [ByteArray.size_append]; omega
    have zC : (bs (lp pre k (bF n) ts j) ++ ByteArray.mk #[32] ++ bs (bF n)).size <= 100004 := by rw [ByteArray.size_append]; omega
    have zD : (bs (lp pre k (bF n) ts j) ++ ByteArray.mk #[32] ++ bs (bF n) ++ ByteArray.mk #[32]).size <= 100005 := by rw [ByteArray.size_append]; omega
    have eN : ((bl = true /\ j = 0) \/ (bo = true /\ j = 1)) -> ∀ tx, ts[j]? = some tx -> bs (lp pre k (bF n) ts j) ++ ByteArray.mk #[32] ++ bs (bF n) ++ ByteArray.mk #[32] ++ bs tx = bs (lp pre k (bF n) ts (j + 1)) := by
     intro IW tx Av
     rw [HL.out, HO.out, decide_eq_true_eq, decide_eq_true_eq] at IW
     rw [o7.out tx Av, show ByteArray.mk #[32] = bs [32] from rfl, fg, fg, fg, fg]
     unfold cI; rw [if_pos IW]; simp
    have eP : ¬ ((bl = true /\ j = 0) \/ (bo = true /\ j = 1)) -> ∀ tx, ts[j]? = some tx -> bs (lp pre k (bF n) ts j) ++ ByteArray.mk #[32] ++ bs tx = bs (lp pre k (bF n) ts (j + 1)) := by
     intro IW tx Av
     rw [HL.out, HO.out, decide_eq_true_eq, decide_eq_true_eq] at IW
     rw [o7.out tx Av, show ByteArray.mk #[32] = bs [32] from rfl, fg, fg]
     unfold cI; rw [if_neg IW]; simp
    have EN : Hid _ := eN
    have EP : Hid _ := eP
    clear eN eP jV hbel
    by_cases IW : (bl = true /\ j = 0) \/ (bo = true /\ j = 1)
    ·have RC : Hid _ := EN.out IW
     clear EN EP o7 HL HO HZ
     have dw : (bl = true /\ j = 0) \/ (bl = false /\ bo = true /\ j = 1) := by
      rcases IW with h | h
      ·exact Or.inl h
      ·right
       refine ⟨?_, h⟩
       cases bl with
       | false => rfl
       | true => exact absurd ⟨rfl, h.1⟩ Yd
     clear IW Yd
     have hbq : (bl = true /\ ((j : Int) == 0) = true) \/ (bl = false /\ bo = true /\ ((j : Int) == 1) = true) := by
      rcases dw with ⟨h1, h2⟩ | ⟨h1, h2, h3⟩
      ·exact Or.inl ⟨h1, by rw [h2]; rfl⟩
      ·exact Or.inr ⟨h1, h2, by rw [h3]; rfl⟩
     clear dw
     rcases hbq with ⟨rfl, hqj⟩ | ⟨rfl, rfl, hqj⟩
     all_goals
      go_wp2_with fail
      refine Calls.mono (QH.out _) ?_
      rintro _ w1 ⟨rfl, hb1⟩
      have dF : Hid _ := HB.out.trans (hb1.mono hsz)
      have r2 : w1.cell? ⟨p, 2, none⟩ = some (.slice (some ⟨c, 0, none⟩) ks.length ks.length) := (dF.out.cell (p := ⟨p, 2, none⟩) hp).trans x2
      have aaR : p < w1.heap.size := by have := dF.out.size; omega
      have aaS : c < w1.heap.size := by have := dF.out.size; omega
      obtain ⟨q, tx, hq, Av, SS, hcall⟩ := SR.out _ hlt w1 dF.out
      have WH := RC.out tx Av
      have zE : (bs tx).size <= 100000 := by rw [dm]; exact SS
      have HC : Hid _ := hcall
      have HFE : Hid _ := WH
      clear hcall WH Av RC hb1
      go_wp2_with fail
      refine Calls.mono HC.out ?_
      rintro _ w2 ⟨rfl, hb2⟩
      have dN : Hid _ := dF.out.trans (hb2.mono dF.out.size)
      clear hb2 HC
      go_wp2
      go_roundw
      case rel => exact ⟨j + 1, by omega, by go_num, by rw [<- HFE.out], dN.out⟩
      case measure => simp [intOf]; omega
    ·have RC : Hid _ := EP.out IW
     clear EN EP o7 HL HO HZ
     obtain ⟨q, tx, hq, Av, SS, hcall⟩ := SR.out j hlt wr HB.out
     have WH := RC.out tx Av
     have zE : (bs tx).size <= 100000 := by rw [dm]; exact SS
     have HC : Hid _ := hcall
     have HFE : Hid _ := WH
     have lg : ¬ (bl = true /\ j = 0) := fun h => IW (Or.inl h)
     have hno : ¬ (bo = true /\ j = 1) := fun h => IW (Or.inr h)
     clear hcall WH Av RC IW
     have qj0 : j ≠ 0 -> ((j : Int) == 0) = false := fun h => by rw [beq_eq_false_iff_ne]; omega
     have qj1 : j ≠ 1 -> ((j : Int) == 1) = false := fun h => by rw [beq_eq_false_iff_ne]; omega
     cases bl <;> cases bo <;> first | exact absurd ⟨rfl, rfl⟩ Yd | skip
     all_goals
      clear Yd
      first
      | (have Ye : j ≠ 0 := fun h => lg ⟨rfl, h⟩
         have q6 := qj0 Ye)
      | (have hj1 : j ≠ 1 := fun h => hno ⟨rfl, h⟩
         have q6 := qj1 hj1)
      | skip
      clear lg hno qj0 qj1
      go_wp2_with fail
      refine Calls.mono HC.out ?_
      rintro _ w2 ⟨rfl, hb2⟩
      have dN : Hid _ := HB.out.trans (hb2.mono hsz)
      clear hb2 HC
      go_wp2
      go_roundw
      case rel => exact ⟨j + 1, by omega, by go_num, by rw [<- HFE.out], dN.out⟩
      case measure => simp [intOf]; omega
   ·have hjk : j = ks.length := by omega
    subst hjk
    clear SR HL HO
    go_wp2_with fail
    go_ret
    refine ⟨?_, HB.out⟩
    rw [<- KX.out, <- fg]; rfl
theorem ET (s : ByteArray) (w : World) (hs : s.size <= 5) :
  Calls Tryz.prog 63 #[.string s] w fun e w' => e = .returned (.int .i64 (um s.data.toList)) /\ w' = w := by
 go_enter Tryz.func63, Tryz.ntmps63
 go_wp2
 go_loop [3, 4] (fun n i => ∃ k : Nat, k <= s.size /\ i = .int .i64 k /\ n = .int .i64 (um (s.data.toList.take k))) (fun _ i => s.size - (intOf i).toNat)
 case atStart => exact ⟨0, by omega, rfl, rfl⟩
 case round =>
  obtain ⟨k, hk, rfl, rfl⟩ := hrel
  have hb := NF s.data.toList 0 0 (by omega) (by omega) (by simp; omega) k (by simp; omega)
  have hp := Uu k (by omega)
  obtain ⟨m, hm⟩ : ∃ m, m = um (s.data.toList.take k) := ⟨_, rfl⟩
  rw [<- hm] at hb
  obtain ⟨hb1, hb2⟩ : -3000000 <= m /\ m <= 3000000 := by omega
  clear hp hb
  by_cases hlt : k < s.size
  ·have iF : um (s.data.toList.take (k + 1)) = 10 * m + (s[k].toNat : Int) - 48 := by rw [G5 s k hlt, sE, hm]
   have HS : Hid _ := iF
   have uD : s[k].toNat < 256 := s[k].toNat_lt
   have HC : Hid _ := uD
   clear iF uD
   rw [<- hm]
   have HM : Hid _ := hm
   clear hm
   go_wp2
   go_round
   case rel =>
    refine ⟨k + 1, by omega, by go_num, ?_⟩
    have := HC.out
    rw [HS.out]
    rw [IntWalk.wrap64_in (s[k].toNat : Int) (by omega), IntWalk.wrap64_in (10 * m + (s[k].toNat : Int)) (by omega), IntWalk.wrap64_in _ (by omega)]
   case measure => simp [intOf]; omega
  ·go_wp2
   go_ret
   exact ⟨jO (by rw [List.take_of_length_le (by simp; omega)]), rfl⟩
theorem SU (k : Nat) (w : World) (hk : k <= 9999) : Calls Tryz.prog 63 #[.string (bs (decDigits k))] w fun e w' => e = .returned (.int .i64 k) /\ w' = w := by
 have hl : (decDigits k).length <= 4 := by
  rw [decDigits]; split
  ·simp
  ·rw [decDigits]; split
   ·simp
   ·rw [decDigits]; split
    ·simp
    ·rw [decDigits]; split
     ·simp
     ·omega
 have := ET (bs (decDigits k)) w (by rw [dm]; omega)
 rw [G6, vz] at this
 exact this
theorem Vl.Pg (a b : Vl) : (Vl.p a b).txt.length = a.txt.length + b.txt.length + 3 := by simp only [Vl.txt, List.length_cons, List.length_append, List.length_nil]; omega
theorem Vl.uV : ∀ {v : Vl} {T : Ty}, v.has T -> v.txt.length <= 7 * T.size + 4
 | .n k, .n, h => by
  simp only [Vl.has] at h
  simp only [Vl.txt, Ty.size]
  rw [decDigits]; split
  ·simp
  ·rw [decDigits]; split
   ·simp
   ·rw [decDigits]; split
    ·simp
    ·rw [decDigits]; split
     ·simp
     ·omega
 | .p a b, .p _ x y, h => by
  simp only [Vl.has] at h
  have h1 := Vl.uV h.1
  have h2 := Vl.uV h.2
  rw [Vl.Pg]
  simp only [Ty.size]; omega
 | .n _, .p _ _ _, h => by simp [Vl.has] at h
 | .p _ _, .n, h => by simp [Vl.has] at h
def oo (env : dU) (G : aQ) : Prop := ∀ s T, look G s = some T -> (mP env s).has T
theorem oo.snoc {env : dU} {G : aQ} {nm : List UInt8} {v : Vl} {T : Ty} (h : oo env G) (hv : v.has T) : oo (env ++ [(nm, v)]) (G ++ [(nm, T)]) := by
 intro s U hs
 rw [IQ] at hs
 rw [wu]
 by_cases e : nm = s
 ·rw [if_pos (by simpa using e)] at hs; rw [if_pos e]; cases hs; exact hv
 ·rw [if_neg (by simpa using e)] at hs; rw [if_neg e]; exact h s U hs
def SV (T : Ty) (st : cd) (r : Vl × cd) : Prop := (r.2.e = 0 -> st.e = 0 /\ r.1.has T) /\ (r.2.e ≠ 0 -> r.1 = .n 0)
theorem fR {fuel : Nat} {st : cd} {T : Ty} {f : cd -> Vl × cd} (h : ∀ st' : cd, st'.e = 0 -> st.e = 0 -> SV T st' (f st')) : SV T st (begun fuel st f) := by
 unfold begun
 split
 ·rename_i he; exact ⟨fun e => absurd e he, fun _ => rfl⟩
 ·rename_i he
  have h0 : st.e = 0 := by simpa using he
  split
  ·exact ⟨fun e => by simp at e, fun _ => rfl⟩
  ·have := h { st with steps := st.steps + 1 } h0 h0
   exact ⟨fun e => ⟨h0, (this.1 e).2⟩, this.2⟩
theorem zi {T : Ty} {f : Vl -> cd -> Vl × cd} (hf : ∀ v st, (st.e = 0 -> v.has T) -> SV T st (f v st)) : ∀ (k : Nat) (v : Vl) (st : cd), (st.e = 0 -> v.has T) -> (st.e ≠ 0 -> v = .n 0) -> SV T st (turns f k v st)
 | 0, v, st, h1, h2 => ⟨fun e => ⟨e, h1 e⟩, h2⟩
 | k + 1, v, st, h1, h2 => by
  unfold turns
  split
  ·rename_i he; exact ⟨fun e => absurd e he, h2⟩
  ·rename_i he
   have h0 : st.e = 0 := by simpa using he
   have hx := hf v st h1
   have := zi hf k (f v st).1 (f v st).2 (fun e => (hx.1 e).2) hx.2
   exact ⟨fun e => ⟨h0, (this.1 e).2⟩, this.2⟩
theorem mM {v : Vl} (h : v.has .n) : ∃ k, v = .n k /\ k <= 9999 := by
 cases v with
 | n k => exact ⟨k, rfl, h⟩
 | p a b => simp [Vl.has] at h
theorem cJ.LR {p : Nat} {k : Kw} {nm rg : List UInt8} {kids : List PT} (h : cJ (.node p k nm rg kids)) : ∀ x ∈ kids, cJ x := by cases h with | node _ h => exact h
theorem cJ.kw {p : Nat} {k : Kw} {nm rg : List UInt8} {kids : List PT} (h : cJ (.node p k nm rg kids)) : k ≠ .new := by cases h with | node h _ => exact h
def qI (fuel : Nat) (k : Kw) (kids : List PT) (env : dU) (st : cd) : Vl × cd :=
 if (cw fuel kids env st).2.e ≠ 0 then (.n 0, (cw fuel kids env st).2) else ct k (cw fuel kids env st).1 (cw fuel kids env st).2
theorem AK (fuel : Nat) (k : Kw) (x : PT) (env : dU) (st : cd) : qI fuel k [x] env st = if (ev fuel x env st).2.e ≠ 0 then (.n 0, (ev fuel x env st).2) else ct k [(ev fuel x env st).1] (ev fuel x env st).2 := by
 unfold qI; simp only [cw]; rfl
theorem AL (fuel : Nat) (k : Kw) (x y : PT) (env : dU) (st : cd) : qI fuel k [x, y] env st = if (ev fuel y env (ev fuel x env st).2).2.e ≠ 0 then (.n 0, (ev fuel y env (ev fuel x env st).2).2) else ct k [(ev fuel x env st).1, (ev fuel y env (ev fuel x env st).2).1] (ev fuel y env (ev fuel x env st).2).2 := by
 unfold qI; simp only [cw]; rfl
theorem l9 (fuel p : Nat) (k : Kw) (nm rg : List UInt8) (kids : List PT) (env : dU) (st : cd) (h1 : k ≠ .bb) (h2 : k ≠ .fH) (h3 : k ≠ .loop) : ev fuel (.node p k nm rg kids) env st = begun fuel st (fun st => qI fuel k kids env st) := by
 conv => lhs; unfold ev
 simp only [if_neg h1, if_neg h2, if_neg h3]
 rfl
theorem SW (fuel : Nat) {G : aQ} {t : PT} {T : Ty} (h : WT G t T) : ∀ (env : dU) (st : cd), t.bN -> cJ t -> (st.e = 0 -> oo env G) -> SV T st (ev fuel t env st) := by
 induction h with
 | num =>
  intro env st ht hn he
  simp only [PT.bN] at ht
  unfold ev
  exact fR (fun st' h0 _ => ⟨fun _ => ⟨h0, by simp only [Vl.has]; omega⟩, fun e => absurd h0 e⟩)
 | name hl =>
  intro env st ht hn he
  unfold ev
  exact fR (fun st' h0 hs => ⟨fun _ => ⟨h0, he hs _ _ hl⟩, fun e => absurd h0 e⟩)
 | @bb G p nm rg a b A B ha hb bI dG =>
  intro env st ht hn he
  simp only [PT.bN, bG] at ht
  unfold ev
  refine fR (fun st' h0 hs => ?_)
  simp only [if_pos, iR]
  have x := bI env st' ht.2.1 (hn.LR _ (by simp)) (fun _ => he hs)
  have y := dG (env ++ [(nm, (ev fuel a env st').1)]) (ev fuel a env st').2 ht.2.2.1 (hn.LR _ (by simp)) (fun e => (he (by have := (x.1 e).1; exact hs)).snoc (x.1 e).2)
  exact ⟨fun e => ⟨h0, (y.1 e).2⟩, y.2⟩
 | @pair G p nm rg a b A B ha hb hsz bI dG =>
  intro env st ht hn he
  simp only [PT.bN, bG] at ht
  rw [l9 _ _ _ _ _ _ _ _ (by decide) (by decide) (by decide)]
  refine fR (fun st' h0 hs => ?_)
  have x := bI env st' ht.2.1 (hn.LR _ (by simp)) (fun _ => he hs)
  have y := dG env (ev fuel a env st').2 ht.2.2.1 (hn.LR _ (by simp)) (fun _ => he hs)
  rw [AL]
  split
  ·rename_i e1; exact ⟨fun e => absurd e e1, fun _ => rfl⟩
  ·rename_i e1
   have e0 : (ev fuel b env (ev fuel a env st').2).2.e = 0 := by simpa using e1
   have y0 := y.1 e0
   refine ⟨fun _ => ⟨h0, ?_⟩, fun e => absurd e0 e⟩
   simp only [ct, Vl.has]
   exact ⟨(x.1 y0.1).2, y0.2⟩
 | @fst G p nm rg a A B ha bI =>
  intro env st ht hn he
  simp only [PT.bN, bG] at ht
  rw [l9 _ _ _ _ _ _ _ _ (by decide) (by decide) (by decide)]
  refine fR (fun st' h0 hs => ?_)
  have x := bI env st' ht.2.1 (hn.LR _ (by simp)) (fun _ => he hs)
  rw [AK]
  split
  ·rename_i e1; exact ⟨fun e => absurd e e1, fun _ => rfl⟩
  ·rename_i e1
   have e0 : (ev fuel a env st').2.e = 0 := by simpa using e1
   have x0 := (x.1 e0).2
   refine ⟨fun _ => ⟨h0, ?_⟩, fun e => absurd e0 e⟩
   simp only [ct]
   revert x0
   generalize (ev fuel a env st').1 = v
   intro x0
   cases v with
   | n k => simp [Vl.has] at x0
   | p u v => simp only [Vl.has] at x0; exact x0.1
 | @snd G p nm rg a A B ha bI =>
  intro env st ht hn he
  simp only [PT.bN, bG] at ht
  rw [l9 _ _ _ _ _ _ _ _ (by decide) (by decide) (by decide)]
  refine fR (fun st' h0 hs => ?_)
  have x := bI env st' ht.2.1 (hn.LR _ (by simp)) (fun _ => he hs)
  rw [AK]
  split
  ·rename_i e1; exact ⟨fun e => absurd e e1, fun _ => rfl⟩
  ·rename_i e1
   have e0 : (ev fuel a env st').2.e = 0 := by simpa using e1
   have x0 := (x.1 e0).2
   refine ⟨fun _ => ⟨h0, ?_⟩, fun e => absurd e0 e⟩
   simp only [ct]
   revert x0
   generalize (ev fuel a env st').1 = v
   intro x0
   cases v with
   | n k => simp [Vl.has] at x0
   | p u v => simp only [Vl.has] at x0; exact x0.2
 | @fH G p nm rg a b c T ha hb hc bI dG nY =>
  intro env st ht hn he
  simp only [PT.bN, bG] at ht
  unfold ev
  refine fR (fun st' h0 hs => ?_)
  simp only [reduceCtorEq, if_false, if_true, ml]
  have x := bI env st' ht.2.1 (hn.LR _ (by simp)) (fun _ => he hs)
  split
  ·have y := dG env (ev fuel a env st').2 ht.2.2.1 (hn.LR _ (by simp)) (fun _ => he hs)
   exact ⟨fun e => ⟨h0, (y.1 e).2⟩, y.2⟩
  ·have y := nY env (ev fuel a env st').2 ht.2.2.2.1 (hn.LR _ (by simp)) (fun _ => he hs)
   exact ⟨fun e => ⟨h0, (y.1 e).2⟩, y.2⟩
 | @two G p k nm rg a b hk ha hb bI dG =>
  intro env st ht hn he
  simp only [PT.bN, bG] at ht
  have k1 : k ≠ .bb := by rcases hk with rfl | rfl | rfl <;> decide
  have k2 : k ≠ .fH := by rcases hk with rfl | rfl | rfl <;> decide
  have k3 : k ≠ .loop := by rcases hk with rfl | rfl | rfl <;> decide
  rw [l9 _ _ _ _ _ _ _ _ k1 k2 k3]
  refine fR (fun st' h0 hs => ?_)
  rw [AL]
  split
  ·rename_i e1; exact ⟨fun e => absurd e e1, fun _ => rfl⟩
  ·rename_i e1
   have e0 : (ev fuel b env (ev fuel a env st').2).2.e = 0 := by simpa using e1
   rcases hk with rfl | rfl | rfl
   all_goals
    refine ⟨fun _ => ⟨h0, ?_⟩, fun e => absurd e0 e⟩
    simp only [ct, Vl.has]
    first | omega | (split <;> omega)
 | @loop G p nm rg a b c T ha hb hc bI dG nY =>
  intro env st ht hn he
  simp only [PT.bN, bG] at ht
  unfold ev
  refine fR (fun st' h0 hs => ?_)
  simp only [reduceCtorEq, if_false, if_true, eD]
  have y := dG env (ev fuel a env st').2 ht.2.2.1 (hn.LR _ (by simp)) (fun _ => he hs)
  have z := zi (f := fun v st => ev fuel c (env ++ [(nm, v)]) st) (fun v st hv => nY (env ++ [(nm, v)]) st ht.2.2.2.1 (hn.LR _ (by simp)) (fun e => (he hs).snoc (hv e))) (ev fuel a env st').1.num (ev fuel b env (ev fuel a env st').2).1 (ev fuel b env (ev fuel a env st').2).2 (fun e => (y.1 e).2) y.2
  exact ⟨fun e => ⟨h0, (z.1 e).2⟩, z.2⟩
 | new ha bI =>
  intro env st ht hn he
  exact absurd rfl hn.kw
def iC (fuel : Nat) (st st' : cd) : Prop := st.steps <= fuel -> st'.steps <= fuel /\ st'.cells + st.steps <= st.cells + st'.steps /\ st.steps <= st'.steps
theorem iC.refl (fuel : Nat) (st : cd) : iC fuel st st := fun h => ⟨h, by omega, by omega⟩
theorem iC.trans {fuel : Nat} {a b c : cd} (h : iC fuel a b) (h' : iC fuel b c) : iC fuel a c := fun h0 => by
 have h1 := h h0
 have h2 := h' h1.1
 exact ⟨h2.1, by omega, by omega⟩
theorem qJ {fuel : Nat} {st : cd} {f : cd -> Vl × cd} (h : ∀ st' : cd, st'.steps = st.steps + 1 -> st'.cells = st.cells -> st'.steps <= fuel -> (f st').2.steps <= fuel /\ (f st').2.cells + st'.steps <= st'.cells + (f st').2.steps + 1 /\ st'.steps <= (f st').2.steps) : iC fuel st (begun fuel st f).2 := by
 unfold begun
 split
 ·exact iC.refl _ _
 ·split
  ·exact fun h => ⟨h, by simp, by simp⟩
  ·rename_i hne
   intro h0
   have := h { st with steps := st.steps + 1 } rfl rfl (by simp only; omega)
   simp only at this ⊢
   omega
theorem xb {fuel : Nat} {f : Vl -> cd -> Vl × cd} (hf : ∀ v st, iC fuel st (f v st).2) : ∀ (k : Nat) (v : Vl) (st : cd), iC fuel st (turns f k v st).2
 | 0, _, st => iC.refl _ _
 | k + 1, v, st => by
  unfold turns
  split
  ·exact iC.refl _ _
  ·exact (hf v st).trans (xb hf k _ _)
theorem IX (k : Kw) (vs : List Vl) (st : cd) : (ct k vs st).2.steps = st.steps /\ (ct k vs st).2.cells <= st.cells + 1 := by
 unfold ct
 split <;> simp
mutual
theorem iD (fuel : Nat) : ∀ (t : PT) (env : dU) (st : cd), iC fuel st (ev fuel t env st).2
 | .num _ s, env, st => by
  unfold ev; exact qJ (fun st' _ _ h => ⟨h, by simp, Nat.le_refl _⟩)
 | .name _ s, env, st => by
  unfold ev; exact qJ (fun st' _ _ h => ⟨h, by simp, Nat.le_refl _⟩)
 | .node _ k nm _ kids, env, st => by
  unfold ev
  refine qJ (fun st' _ _ h => ?_)
  split
  ·have := EU fuel nm kids env st' h; omega
  ·split
   ·have := IY fuel kids env st' h; omega
   ·split
    ·have := CN fuel nm kids env st' h; omega
    ·have := tZ fuel kids env st' h
     simp only
     split
     ·simp only; omega
     ·have := IX k (cw fuel kids env st').1 (cw fuel kids env st').2
      omega
theorem tZ (fuel : Nat) : ∀ (ts : List PT) (env : dU) (st : cd), iC fuel st (cw fuel ts env st).2
 | [], _, st => by simp only [cw]; exact iC.refl _ _
 | a :: r, env, st => by simp only [cw]; exact (iD fuel a env st).trans (tZ fuel r env _)
theorem EU (fuel : Nat) (nm : List UInt8) : ∀ (ts : List PT) (env : dU) (st : cd), iC fuel st (iR fuel nm ts env st).2
 | [a, b], env, st => by simp only [iR]; exact (iD fuel a env st).trans (iD fuel b _ _)
 | [], _, st => by simp only [iR]; exact iC.refl _ _
 | [_], _, st => by simp only [iR]; exact iC.refl _ _
 | _ :: _ :: _ :: _, _, st => by simp only [iR]; exact iC.refl _ _
theorem IY (fuel : Nat) : ∀ (ts : List PT) (env : dU) (st : cd), iC fuel st (ml fuel ts env st).2
 | [a, b, c], env, st => by
  simp only [ml]
  split
  ·exact (iD fuel a env st).trans (iD fuel b _ _)
  ·exact (iD fuel a env st).trans (iD fuel c _ _)
 | [], _, st => by simp only [ml]; exact iC.refl _ _
 | [_], _, st => by simp only [ml]; exact iC.refl _ _
 | [_, _], _, st => by simp only [ml]; exact iC.refl _ _
 | _ :: _ :: _ :: _ :: _, _, st => by simp only [ml]; exact iC.refl _ _
theorem CN (fuel : Nat) (nm : List UInt8) : ∀ (ts : List PT) (env : dU) (st : cd), iC fuel st (eD fuel nm ts env st).2
 | [a, b, c], env, st => by
  simp only [eD]
  exact ((iD fuel a env st).trans (iD fuel b _ _)).trans (xb (fun v st => iD fuel c _ st) _ _ _)
 | [], _, st => by simp only [eD]; exact iC.refl _ _
 | [_], _, st => by simp only [eD]; exact iC.refl _ _
 | [_, _], _, st => by simp only [eD]; exact iC.refl _ _
 | _ :: _ :: _ :: _ :: _, _, st => by simp only [eD]; exact iC.refl _ _
end
theorem Gk (k : Kw) (rg : List UInt8) : iz (if k = .pair then rg else []) = if k = .pair then iz rg else [] := by split <;> rfl
theorem IZ (rg : List UInt8) : ∀ {vs : List Nat} {x : KE} {t : Nat}, KT vs x t -> vs.length <= 101 -> CK rg x := by
 intro vs x t h
 induction h with
 | num h => intro _; exact LD rg _ (by omega)
 | var h =>
  intro hl
  refine LF rg _ ?_
  have := (List.getElem?_eq_some_iff.1 h).1
  omega
 | bb _ hl _ _ ha hb =>
  intro _
  refine jh rg _ .bb _ [_, _] (by decide) (by omega) ?_ (fun w p h => ES h) (by simp) ?_
  ·simp only [KE.pt, PT.tidy, dA, Gk, gL, List.map_cons, List.map_nil]
  ·intro y hy
   simp only [List.mem_cons, List.not_mem_nil, or_false] at hy
   rcases hy with rfl | rfl
   ·exact ha (by omega)
   ·exact hb (by simp; omega)
 | fH _ _ _ ha hb hc =>
  intro hl
  refine jh rg _ .fH 0 [_, _, _] (by decide) (by omega) ?_ (fun w p h => LP h) (by simp) ?_
  ·simp only [KE.pt, PT.tidy, dA, gL, List.map_cons, List.map_nil]
   rfl
  ·intro y hy
   simp only [List.mem_cons, List.not_mem_nil, or_false] at hy
   rcases hy with rfl | rfl | rfl
   ·exact ha hl
   ·exact hb hl
   ·exact hc hl
 | loop hl _ _ _ ha hb hc =>
  intro _
  refine jh rg _ .loop _ [_, _, _] (by decide) (by omega) ?_ (fun w p h => LP h) (by simp) ?_
  ·simp only [KE.pt, PT.tidy, dA, gL, List.map_cons, List.map_nil]
   rfl
  ·intro y hy
   simp only [List.mem_cons, List.not_mem_nil, or_false] at hy
   rcases hy with rfl | rfl | rfl
   ·exact ha (by omega)
   ·exact hb (by omega)
   ·exact hc (by simp; omega)
 | pair _ _ _ _ ha hb =>
  intro hl
  refine jh rg _ .pair 0 [_, _] (by decide) (by omega) ?_ (fun w p h => ES h) (by simp) ?_
  ·simp only [KE.pt, PT.tidy, dA, gL, List.map_cons, List.map_nil, if_true]
  ·intro y hy
   simp only [List.mem_cons, List.not_mem_nil, or_false] at hy
   rcases hy with rfl | rfl
   ·exact ha hl
   ·exact hb hl
 | fst _ _ _ ha =>
  intro hl
  refine jh rg _ .fst 0 [_] (by decide) (by omega) ?_ (fun w p h => LO h) (by simp) ?_
  ·simp only [KE.pt, PT.tidy, dA, List.map_cons, List.map_nil, <- gL]
   rfl
  ·intro y hy
   simp only [List.mem_cons, List.not_mem_nil, or_false] at hy
   subst hy
   exact ha hl
 | snd _ _ _ ha =>
  intro hl
  refine jh rg _ .snd 0 [_] (by decide) (by omega) ?_ (fun w p h => LO h) (by simp) ?_
  ·simp only [KE.pt, PT.tidy, dA, List.map_cons, List.map_nil, <- gL]
   rfl
  ·intro y hy
   simp only [List.mem_cons, List.not_mem_nil, or_false] at hy
   subst hy
   exact ha hl
 | two hk _ _ ha hb =>
  intro hl
  refine jh rg _ _ 0 [_, _] (by rcases hk with rfl | rfl | rfl <;> decide) (by omega) ?_ (fun w p h => ES h) (by simp) ?_
  ·simp only [KE.pt, PT.tidy, dA, Gk, gL, List.map_cons, List.map_nil]
  ·intro y hy
   simp only [List.mem_cons, List.not_mem_nil, or_false] at hy
   rcases hy with rfl | rfl
   ·exact ha hl
   ·exact hb hl
def Nk (n : Nat) (a b : Value) : Array Value := #[.int .i64 n, a, b]
def dr (w : World) : Vl -> Nat -> Prop
 | .n k, p => w.heap[p]? = some (.cells (Nk k (.pointer none) (.pointer none)) 141 (0, 0))
 | .p a b, p => ∃ pa pb : Nat, w.heap[p]? = some (.cells (Nk 0 (.pointer (some ⟨pa, 0, none⟩)) (.pointer (some ⟨pb, 0, none⟩))) 141 (0, 0)) /\ dr w a pa /\ dr w b pb
theorem dr.keep {w w' : World} (h : ∀ (k : Nat) (arr : Array Value), w.heap[k]? = some (.cells arr 141 (0, 0)) -> w'.heap[k]? = some (.cells arr 141 (0, 0))) : ∀ {v : Vl} {p : Nat}, dr w v p -> dr w' v p
 | .n _, _, hx => h _ _ hx
 | .p _ _, _, ⟨pa, pb, h1, h2, h3⟩ => ⟨pa, pb, h _ _ h1, dr.keep h h2, dr.keep h h3⟩
theorem dr.below {w w' : World} {v : Vl} {p : Nat} (h : dr w v p) (hb : Below w.heap.size w w') : dr w' v p := h.keep (fun k _ hk => (hb.block k (af hk)).trans hk)
theorem dr.num {w : World} {v : Vl} {p : Nat} (h : dr w v p) : p < w.heap.size /\ w.cell? ⟨p, 0, none⟩ = some (.int .i64 v.num) := by
 cases v with
 | n k => have h' : w.heap[p]? = some (.cells (Nk k (.pointer none) (.pointer none)) 141 (0, 0)) := h; exact ⟨af h', by rw [aa h']; rfl⟩
 | p a b => obtain ⟨pa, pb, h1, _, _⟩ := h; exact ⟨af h1, by rw [aa h1]; rfl⟩
def mS (l : List Nat) : List Value := l.map (fun (k : Nat) => Value.pointer (some ⟨k, 0, none⟩))
theorem fe (l : List Nat) : (mS l).length = l.length := by simp [mS]
theorem xd (l : List Nat) (v : Nat) : mS (l ++ [v]) = mS l ++ [.pointer (some ⟨v, 0, none⟩)] := by simp [mS]
def dn (nv : Value) (fuel : Nat) (st : cd) : Array Value := #[nv, .int .i64 fuel, .int .i64 st.steps, .int .i64 st.cells, .bool (decide (st.e ≠ 0))]
structure du (w0 w : World) (yb : Nat) (vals : List Vl) (ps : List Nat) (fuel : Nat) (st : cd) (nv : Value) : Prop where
 ob : jH w0 w yb (dn nv fuel st) 103 nv 104 (mS ps)
 len : ps.length = vals.length
 v : ∀ (i : Nat) (v : Vl) (p : Nat), vals[i]? = some v -> ps[i]? = some p -> dr w v p
theorem dr.fr {w0 w w' : World} {yb : Nat} {cs : Array Value} {xs : List Value} {nv bw : Value} {v : Vl} {p : Nat} (h : dr w v p) (hm : jH w0 w yb cs 103 nv 104 xs) (hf : cF w w' yb nv bw) : dr w' v p :=
 h.keep (fun k arr hk => hm.other hf (by decide) (by decide) hk)
theorem du.grow {w0 w w' : World} {yb : Nat} {vals : List Vl} {ps : List Nat} {fuel : Nat} {st : cd} {nv : Value} (h : du w0 w yb vals ps fuel st nv) (hb : Below w.heap.size w w') : du w0 w' yb vals ps fuel st nv :=
 ⟨h.ob.grow hb, h.len, fun i v p h1 h2 => (h.v i v p h1 h2).below hb⟩
theorem du.set {w0 w : World} {yb : Nat} {vals : List Vl} {ps : List Nat} {fuel : Nat} {st st' : cd} {nv : Value} (h : du w0 w yb vals ps fuel st nv) (o : Nat) (x : Value) (hx : (dn nv fuel st).setIfInBounds o x = dn nv fuel st') : du w0 (w.setCell ⟨yb, o, none⟩ x) yb vals ps fuel st' nv :=
 ⟨h.ob.set o x hx, h.len, fun i v p h1 h2 => (h.v i v p h1 h2).fr h.ob (cF.wR w yb nv o x)⟩
theorem s6 : ∀ (v : Vl) (T : Ty) (p : Nat) (w : World), v.has T -> T.size <= 63 -> dr w v p -> (∀ W, Below w.heap.size w W -> vJ W) ->
  Calls Tryz.prog 52 #[.pointer (some ⟨p, 0, none⟩)] w fun e w' => e = .returned (.string (bs v.txt)) /\ Below w.heap.size w w'
 | .n k, T, p, w, hv, _, hk, hit => by
  have hk9 : k <= 9999 := by
   cases T with
   | n => exact hv
   | p _ _ _ => exact hv.elim
  have hk' : w.heap[p]? = some (.cells (Nk k (.pointer none) (.pointer none)) 141 (0, 0)) := hk
  have hp := af hk'
  have x0 : w.cell? ⟨p, 0, none⟩ = some (.int .i64 k) := by rw [aa hk']; rfl
  have x1 : w.cell? ⟨p, 1, none⟩ = some (.pointer none) := by rw [aa hk']; rfl
  have HI : Hid _ := hit w (Below.refl _ _) k w hk9 (Below.refl _ _)
  simp only [Vl.txt]
  clear hk hk' hit hv
  go_enter Tryz.func52, Tryz.ntmps52
  go_wp2_with fail
  refine Calls.mono HI.out ?_
  rintro _ w2 ⟨rfl, hb⟩
  go_wp2
  go_ret
  exact ⟨rfl, hb⟩
 | .p a b, T, p, w, hv, hT, hk, hit => by
  obtain ⟨r, A, B, rfl, ha, hb⟩ : ∃ r A B, T = .p r A B /\ a.has A /\ b.has B := by
   cases T with
   | n => exact hv.elim
   | p r A B => exact ⟨r, A, B, rfl, hv.1, hv.2⟩
  simp only [Ty.size] at hT
  obtain ⟨pa, pb, h1, h2, h3⟩ := hk
  have hp := af h1
  have x1 : w.cell? ⟨p, 1, none⟩ = some (.pointer (some ⟨pa, 0, none⟩)) := by rw [aa h1]; rfl
  have x2 : w.cell? ⟨p, 2, none⟩ = some (.pointer (some ⟨pb, 0, none⟩)) := by rw [aa h1]; rfl
  have HA : Hid _ := s6 a A pa w ha (by omega) h2 hit
  have HB : Hid _ := fun W hW => s6 b B pb W hb (by omega) (h3.below hW) (fun W' hW' => hit W' (hW.trans (hW'.mono hW.size)))
  have la := Vl.uV ha
  have lb := Vl.uV hb
  have z1 : (ByteArray.mk #[91]).size = 1 := rfl
  have z2 : (ByteArray.mk #[32]).size = 1 := rfl
  have z3 : (ByteArray.mk #[93]).size = 1 := rfl
  have zA : (bs a.txt).size <= 1000 := by rw [dm]; omega
  have zB : (bs b.txt).size <= 1000 := by rw [dm]; omega
  have zC : (ByteArray.mk #[91] ++ bs a.txt).size <= 1001 := by rw [ByteArray.size_append]; omega
  have zD : (ByteArray.mk #[91] ++ bs a.txt ++ ByteArray.mk #[32]).size <= 1002 := by rw [ByteArray.size_append]; omega
  have zE : (ByteArray.mk #[91] ++ bs a.txt ++ ByteArray.mk #[32] ++ bs b.txt).size <= 2002 := by rw [ByteArray.size_append]; omega
  have hfin : ByteArray.mk #[91] ++ bs a.txt ++ ByteArray.mk #[32] ++ bs b.txt ++ ByteArray.mk #[93] = bs (Vl.txt (.p a b)) := by
   rw [show ByteArray.mk #[91] = bs [91] from rfl, show ByteArray.mk #[32] = bs [32] from rfl, show ByteArray.mk #[93] = bs [93] from rfl, fg, fg, fg, fg]
   simp [Vl.txt]
  have KX : Hid _ := hfin
  clear hfin h1 h2 h3 hit hv ha hb la lb
  go_enter Tryz.func52, Tryz.ntmps52
  go_wp2_with fail
  refine Calls.mono HA.out ?_
  rintro _ w2 ⟨rfl, hb2⟩
  have y2 : w2.cell? ⟨p, 2, none⟩ = some (.pointer (some ⟨pb, 0, none⟩)) := (hb2.cell (p := ⟨p, 2, none⟩) hp).trans x2
  have uE : p < w2.heap.size := by have := hb2.size; omega
  have dN : Hid _ := hb2
  clear hb2 HA
  go_wp2_with fail
  refine Calls.mono (HB.out w2 dN.out) ?_
  rintro _ w3 ⟨rfl, hb3⟩
  have iI : Hid _ := dN.out.trans (hb3.mono dN.out.size)
  clear hb3 HB
  go_wp2
  go_ret
  exact ⟨by rw [<- KX.out]; rfl, iI.out⟩
theorem jo {id p : Nat} {x : Ty × dD} {T : Ty} {A : Nat} (h0 : x.2.e = 0) (hb : x.1.bare = T) (hs : T.size <= 63) (ha : x.2.at_ = A) : (fin id p x).2.e = 0 /\ (fin id p x).1.bare = T /\ T.size <= 63 /\ (fin id p x).2.at_ = A := by
 have hsz : x.1.size <= 63 := by rw [<- eE, hb]; exact hs
 unfold fin
 have : ¬ (x.2.e = 0 /\ 63 < x.1.size) := by omega
 simp only [if_neg this]
 exact ⟨h0, hb, hs, ha⟩
theorem kx {T A B : Ty} {r : Nat} (h : T.bare = .p r A B) : ∃ q u v, T = .p q u v /\ u.bare = A /\ v.bare = B := by
 cases T with
 | n => simp [Ty.bare] at h
 | p q u v => simp only [Ty.bare, Ty.p.injEq] at h; exact ⟨q, u, v, rfl, h.2.1, h.2.2⟩
theorem jA {T : Ty} (h : T.bare = .n) : T = .n := by cases T with
 | n => rfl
 | p q u v => simp [Ty.bare] at h
theorem WT.find {G : aQ} {e : PT} {T : Ty} (h : WT G e T) : ∀ (cls : List Nat) (id site : Nat) (env : aQ) (st : dD), fV env = G -> (∀ x ∈ env, x.2.size <= 63) -> st.e = 0 ->
  (aD cls e id site env st).2.e = 0 /\ (aD cls e id site env st).1.bare = T /\ T.size <= 63 /\ (aD cls e id site env st).2.at_ = st.at_ := by
 induction h with
 | num => intro cls id site env st _ _ h0; simp only [aD]; exact jo h0 rfl (by simp [Ty.size]) rfl
 | name h =>
  intro cls id site env st hG hs h0
  simp only [aD]
  rw [<- hG, oH] at h
  cases hl : look env _ with
  | none => rw [hl] at h; simp at h
  | some U =>
   rw [hl] at h
   simp only [Option.map_some, Option.some.injEq] at h
   have hU : U.size <= 63 := by
    unfold look at hl
    cases hf : env.reverse.find? (fun x => x.1 == _) with
    | none => rw [hf] at hl; simp at hl
    | some z =>
     rw [hf] at hl
     simp only [Option.map_some, Option.some.injEq] at hl
     have := List.mem_of_find?_eq_some hf
     rw [<- hl]
     exact hs z (List.mem_reverse.1 this)
   exact jo h0 h (by rw [<- h, eE]; exact hU) rfl
 | bb ha hb bI dG =>
  intro cls id site env st hG hs h0
  simp only [aD, if_true, dx]
  obtain ⟨a1, a2, a3, a4⟩ := bI cls (id + 1) site env st hG hs h0
  rename_i nm _ a b A B
  obtain ⟨b1, b2, b3, b4⟩ := dG cls (id + 1 + a.cnt) (site + a.bJ) (env ++ [(nm, (aD cls a (id + 1) site env st).1)]) (aD cls a (id + 1) site env st).2 (by rw [iW, hG, a2]) (by
   intro x hx
   rcases List.mem_append.1 hx with hx | hx
   ·exact hs x hx
   ·simp only [List.mem_singleton] at hx; subst hx; rw [<- eE, a2]; exact a3) a1
  exact jo b1 b2 b3 (b4.trans a4)
 | pair ha hb hsz bI dG =>
  intro cls id site env st hG hs h0
  simp only [aD, if_true, ba, if_neg (show Kw.pair ≠ .bb by decide), if_neg (show Kw.pair ≠ .loop by decide)]
  rename_i a b A B
  obtain ⟨a1, a2, a3, a4⟩ := bI cls (id + 1) (site + 1) env st hG hs h0
  obtain ⟨b1, b2, b3, b4⟩ := dG cls (id + 1 + a.cnt) (site + 1 + a.bJ) env _ hG hs a1
  rw [if_neg (by rw [b1]; simp)]
  simp only [bB]
  exact jo b1 (by simp only [Ty.bare, a2, b2]) hsz (b4.trans a4)
 | fst ha bI =>
  intro cls id site env st hG hs h0
  simp only [aD, ba, if_neg (show Kw.fst ≠ .bb by decide), if_neg (show Kw.fst ≠ .loop by decide), if_neg (show Kw.fst ≠ .pair by decide), Nat.add_zero]
  obtain ⟨a1, a2, a3, a4⟩ := bI cls (id + 1) site env st hG hs h0
  rw [if_neg (by rw [a1]; simp)]
  obtain ⟨q, u, v, e, hu, hv⟩ := kx a2
  rw [e]
  simp only [bB]
  simp only [Ty.size] at a3
  exact jo a1 hu (by omega) a4
 | snd ha bI =>
  intro cls id site env st hG hs h0
  simp only [aD, ba, if_neg (show Kw.snd ≠ .bb by decide), if_neg (show Kw.snd ≠ .loop by decide), if_neg (show Kw.snd ≠ .pair by decide), Nat.add_zero]
  obtain ⟨a1, a2, a3, a4⟩ := bI cls (id + 1) site env st hG hs h0
  rw [if_neg (by rw [a1]; simp)]
  obtain ⟨q, u, v, e, hu, hv⟩ := kx a2
  rw [e]
  simp only [bB]
  simp only [Ty.size] at a3
  exact jo a1 hv (by omega) a4
 | fH ha hb hc bI dG nY =>
  intro cls id site env st hG hs h0
  simp only [aD, ba, if_neg (show Kw.fH ≠ .bb by decide), if_neg (show Kw.fH ≠ .loop by decide), if_neg (show Kw.fH ≠ .pair by decide), Nat.add_zero]
  rename_i a b c T
  obtain ⟨a1, a2, a3, a4⟩ := bI cls (id + 1) site env st hG hs h0
  obtain ⟨b1, b2, b3, b4⟩ := dG cls (id + 1 + a.cnt) (site + a.bJ) env _ hG hs a1
  obtain ⟨c1, c2, c3, c4⟩ := nY cls (id + 1 + a.cnt + b.cnt) (site + a.bJ + b.bJ) env _ hG hs b1
  rw [if_neg (by rw [c1]; simp)]
  simp only [bB]
  rw [if_pos ⟨jA a2, by rw [b2, c2]⟩]
  exact jo c1 b2 b3 (c4.trans (b4.trans a4))
 | two hk ha hb bI dG =>
  intro cls id site env st hG hs h0
  rename_i k _ _ a b
  have hk' : k ≠ .bb /\ k ≠ .loop /\ k ≠ .pair := by rcases hk with rfl | rfl | rfl <;> decide
  simp only [aD, ba, if_neg hk'.1, if_neg hk'.2.1, if_neg hk'.2.2, Nat.add_zero]
  obtain ⟨a1, a2, a3, a4⟩ := bI cls (id + 1) site env st hG hs h0
  obtain ⟨b1, b2, b3, b4⟩ := dG cls (id + 1 + a.cnt) (site + a.bJ) env _ hG hs a1
  rw [if_neg (by rw [b1]; simp)]
  have hm : ∀ (ps : Nat) (A B : Ty) (s : dD), A = .n -> B = .n -> bB cls k ps site [A, B] s = (.n, s) := by
   rintro ps _ _ s rfl rfl
   rcases hk with rfl | rfl | rfl <;> simp [bB]
  rw [hm _ _ _ _ (jA a2) (jA b2)]
  exact jo b1 rfl (by simp [Ty.size]) (b4.trans a4)
 | loop ha hb hc bI dG nY =>
  intro cls id site env st hG hs h0
  simp only [aD, aT, if_true, if_neg (show Kw.loop ≠ .bb by decide)]
  rename_i nm _ a b c T
  obtain ⟨a1, a2, a3, a4⟩ := bI cls (id + 1) site env st hG hs h0
  obtain ⟨b1, b2, b3, b4⟩ := dG cls (id + 1 + a.cnt) (site + a.bJ) env _ hG hs a1
  obtain ⟨c1, c2, c3, c4⟩ := nY cls (id + 1 + a.cnt + b.cnt) (site + a.bJ + b.bJ) (env ++ [(nm, (aD cls b (id + 1 + a.cnt) (site + a.bJ) env (aD cls a (id + 1) site env st).2).1)]) _ (by rw [iW, hG, b2]) (by
   intro x hx
   rcases List.mem_append.1 hx with hx | hx
   ·exact hs x hx
   ·simp only [List.mem_singleton] at hx; subst hx; rw [<- eE, b2]; exact b3) b1
  rw [if_neg (by rw [c1]; simp)]
  simp only [bB]
  rw [if_pos ⟨jA a2, by rw [b2, c2]⟩]
  exact jo c1 b2 b3 (c4.trans (b4.trans a4))
 | new ha bI =>
  intro cls id site env st hG hs h0
  simp only [aD, ba, if_neg (show Kw.new ≠ .bb by decide), if_neg (show Kw.new ≠ .loop by decide), if_neg (show Kw.new ≠ .pair by decide), Nat.add_zero]
  obtain ⟨a1, a2, a3, a4⟩ := bI cls (id + 1) site env st hG hs h0
  rw [if_neg (by rw [a1]; simp)]
  simp only [bB]
  exact jo a1 a2 a3 a4
theorem LS {e : PT} {T : Ty} (h : WT [] e T) (hp : e.bJ <= 100) : cx e = (0, 0) := by
 unfold cx
 have hf := h.find (List.range e.bJ) 0 0 [] (BF e) rfl (by simp) rfl
 rw [if_neg (by omega), hf.1, hf.2.2.2]
 rfl
mutual
theorem AO : ∀ e : PT, e.np.bJ = e.bJ
 | .num _ _ => rfl
 | .name _ _ => rfl
 | .node _ _ _ _ kids => by simp only [PT.np, PT.bJ, Gl kids]
theorem Gl : ∀ l : List PT, jQ (jZ l) = jQ l
 | [] => rfl
 | t :: r => by simp only [jZ, jQ, AO t, Gl r]
end
mutual
theorem mT (fuel : Nat) : ∀ (e : PT) (env : dU) (st : cd), ev fuel e.np env st = ev fuel e env st
 | .num _ _, _, _ => rfl
 | .name _ _, _, _ => rfl
 | .node _ k nm rg kids, env, st => by
  simp only [PT.np, ev]
  congr 1
  funext st
  rw [LU fuel nm kids, Ph fuel kids, I0 fuel nm kids, zj fuel kids]
theorem zj (fuel : Nat) : ∀ (l : List PT) (env : dU) (st : cd), cw fuel (jZ l) env st = cw fuel l env st
 | [], _, _ => rfl
 | t :: r, env, st => by simp only [jZ, cw, mT fuel t, zj fuel r]
theorem LU (fuel : Nat) (nm : List UInt8) : ∀ (l : List PT) (env : dU) (st : cd), iR fuel nm (jZ l) env st = iR fuel nm l env st
 | [], _, _ => rfl
 | [_], _, _ => rfl
 | [a, b], env, st => by simp only [jZ, iR, mT fuel a, mT fuel b]
 | _ :: _ :: _ :: _, _, _ => rfl
theorem Ph (fuel : Nat) : ∀ (l : List PT) (env : dU) (st : cd), ml fuel (jZ l) env st = ml fuel l env st
 | [], _, _ => rfl
 | [_], _, _ => rfl
 | [_, _], _, _ => rfl
 | [a, b, c], env, st => by simp only [jZ, ml, mT fuel a, mT fuel b, mT fuel c]
 | _ :: _ :: _ :: _ :: _, _, _ => rfl
theorem I0 (fuel : Nat) (nm : List UInt8) : ∀ (l : List PT) (env : dU) (st : cd), eD fuel nm (jZ l) env st = eD fuel nm l env st
 | [], _, _ => rfl
 | [_], _, _ => rfl
 | [_, _], _, _ => rfl
 | [a, b, c], env, st => by simp only [jZ, eD, mT fuel a, mT fuel b, mT fuel c]
 | _ :: _ :: _ :: _ :: _, _, _ => rfl
end
theorem xe {fuel p : Nat} {k : Kw} {nm rg Wm : List UInt8} {kids CO : List PT} (h1 : iR fuel nm kids = iR fuel nm CO) (h2 : ml fuel kids = ml fuel CO) (h3 : eD fuel nm kids = eD fuel nm CO) (h4 : cw fuel kids = cw fuel CO) : ev fuel (.node p k nm rg kids) = ev fuel (.node p k nm Wm CO) := by
 funext env st
 simp only [ev]
 rw [h1, h2, h3, h4]
theorem kU (fuel : Nat) (rg : List UInt8) : ∀ (x : KE), ev fuel (x.pt rg) = ev fuel (x.pt [])
 | .num _ => rfl
 | .var _ => rfl
 | .n1 k a => by
  simp only [KE.pt]
  refine xe rfl rfl rfl ?_
  funext env st; simp only [cw, kU fuel rg a]
 | .n2 k n a b => by
  simp only [KE.pt]
  refine xe ?_ rfl rfl ?_
  ·funext env st; simp only [iR, kU fuel rg a, kU fuel rg b]
  ·funext env st; simp only [cw, kU fuel rg a, kU fuel rg b]
 | .n3 k n a b c => by
  simp only [KE.pt]
  refine xe rfl ?_ ?_ ?_
  ·funext env st; simp only [ml, kU fuel rg a, kU fuel rg b, kU fuel rg c]
  ·funext env st; simp only [eD, kU fuel rg a, kU fuel rg b, kU fuel rg c]
  ·funext env st; simp only [cw, kU fuel rg a, kU fuel rg b, kU fuel rg c]
mutual
theorem iU : ∀ (e : PT) {G : aQ} {T : Ty}, WT G e.np T -> WT G e T
 | .num _ _, _, _, h => by cases h; exact .num
 | .name _ _, _, _, h => by cases h with | name h => exact .name h
 | .node p k nm rg kids, G, T, h => by
  match kids with
  | [] => simp only [PT.np, jZ] at h; cases h
  | [a] =>
   simp only [PT.np, jZ] at h
   cases h with
   | fst h => exact .fst (iU a h)
   | snd h => exact .snd (iU a h)
   | new h => exact .new (iU a h)
  | [a, b] =>
   simp only [PT.np, jZ] at h
   cases h with
   | bb h1 h2 => exact .bb (iU a h1) (iU b h2)
   | pair h1 h2 h3 => exact .pair (iU a h1) (iU b h2) h3
   | two hk h1 h2 => exact .two hk (iU a h1) (iU b h2)
  | [a, b, c] =>
   simp only [PT.np, jZ] at h
   cases h with
   | fH h1 h2 h3 => exact .fH (iU a h1) (iU b h2) (iU c h3)
   | loop h1 h2 h3 => exact .loop (iU a h1) (iU b h2) (iU c h3)
  | _ :: _ :: _ :: _ :: _ => simp only [PT.np, jZ] at h; cases h
end
end Go.Proofs.YtpicaknklgccoaaGreatDoor
