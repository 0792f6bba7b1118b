import Derived.Test.YtpicaknklgccoaaGreatDoorX31
namespace Go.Proofs.YtpicaknklgccoaaGreatDoor
open Go.RowKit
def pcF (c : UInt8) (k : Nat) : List UInt8 := if c = 32 ∧ k = 1 then [10] else if c = 32 ∧ k = 2 then [32, 10, 32] else if c = 40 ∧ k = 1 then [40, 32] else if c = 41 ∧ k = 1 then [10, 41] else [c]
theorem pcF_pc (c : UInt8) (k : Nat) : Pc c (pcF c k) := by
 unfold pcF Pc
 split
 ·rename_i h; exact Or.inr (Or.inl ⟨h.1, Or.inl rfl⟩)
 ·split
  ·rename_i h; exact Or.inr (Or.inl ⟨h.1, Or.inr rfl⟩)
  ·split
   ·rename_i h; exact Or.inr (Or.inr (Or.inl ⟨h.1, rfl⟩))
   ·split
    ·rename_i h; exact Or.inr (Or.inr (Or.inr ⟨h.1, rfl⟩))
    ·exact Or.inl rfl
theorem pcF_len (c : UInt8) (k : Nat) : (pcF c k).length ≤ 3 := by
 unfold pcF
 split
 ·simp
 ·split
  ·simp
  ·split
   ·simp
   ·split <;> simp
def sprA (raw : List Int) (l : List UInt8) : Nat → List UInt8 × MkS
 | 0 => ([], ⟨0, 0, []⟩)
 | j + 1 => ((sprA raw l j).1 ++ pcF (l.getD j 0) (nextF raw 4 (sprA raw l j).2).1, (nextF raw 4 (sprA raw l j).2).2)
theorem Spr.snoc {l l' : List UInt8} (h : Spr l l') {c : UInt8} {p : List UInt8} (hp : Pc c p) : Spr (l ++ [c]) (l' ++ p) := by
 induction h with
 | nil => simpa using Spr.cons hp Spr.nil
 | cons hq _ ih => rw [List.append_assoc]; exact Spr.cons hq ih
theorem sprA_spr (raw : List Int) (l : List UInt8) : ∀ j, j ≤ l.length → Spr (l.take j) (sprA raw l j).1
 | 0, _ => Spr.nil
 | j + 1, h => by
  have := (sprA_spr raw l j (by omega)).snoc (pcF_pc (l.getD j 0) (nextF raw 4 (sprA raw l j).2).1)
  rw [List.take_succ_eq_append_getElem (by omega)]
  rw [List.getD_eq_getElem?_getD, List.getElem?_eq_getElem (by omega), Option.getD_some] at this
  simp only [sprA]
  rw [List.getD_eq_getElem?_getD, List.getElem?_eq_getElem (by omega), Option.getD_some]
  exact this
theorem sprA_len (raw : List Int) (l : List UInt8) : ∀ j, (sprA raw l j).1.length ≤ 3 * j ∧ (sprA raw l j).2.at_ ≤ j
 | 0 => ⟨by simp [sprA], by simp [sprA]⟩
 | j + 1 => by
  obtain ⟨h1, h2⟩ := sprA_len raw l j
  have h3 := pcF_len (l.getD j 0) (nextF raw 4 (sprA raw l j).2).1
  simp only [sprA, List.length_append]
  refine ⟨by omega, ?_⟩
  unfold nextF; split
  ·simp only; omega
  ·simp only; omega
def spreadL (raw : List Int) (l : List UInt8) : List UInt8 := (sprA raw l l.length).1
theorem spreadL_spr (raw : List Int) (l : List UInt8) : Spr l (spreadL raw l) := by
 have := sprA_spr raw l l.length (Nat.le_refl _)
 rw [List.take_length] at this; exact this
set_option maxRecDepth 100000 in
set_option maxHeartbeats 8000000 in
theorem spread_any (w : World) (s : ByteArray) (hs : s.size ≤ 9000) (rv : Value) (raw : List Int) (h : RawIn w rv raw) :
  Calls Tryz.prog 28 #[.string s, rv] w fun e w' => e = .returned (.string (bs (spreadL raw s.data.toList))) ∧ Below w.heap.size w w' := by
 obtain ⟨ra, rn, rc, rfl⟩ : ∃ ra rn rc, rv = .slice ra rn rc := by
  rcases h.2 with ⟨h1, _⟩ | ⟨a, cap, h1, _, _⟩
  ·exact ⟨_, _, _, h1⟩
  ·exact ⟨_, _, _, h1⟩
 have hob : MkIn w (w.alloc (.cells (mkCells (.slice ra rn rc) ⟨0, 0, []⟩ (.slice none 0 0)) 94 (0, 0))) w.heap.size (.slice ra rn rc) raw ⟨0, 0, []⟩ (.slice none 0 0) := by
  refine ⟨h, ⟨below_alZ (Below.refl _ w) _, Nat.le_refl _, blk_new _ _, World.ownsRow_nil _ _ _ _, by simp [Value.ownBlock]⟩⟩
 have HOB : Hid _ := hob
 obtain ⟨l, hl⟩ : ∃ l, l = s.data.toList := ⟨_, rfl⟩
 have hll : l.length = s.size := by rw [hl, Array.length_toList]; rfl
 rw [← hl]
 have hchr : ∀ j : Nat, j < s.size → s.extract j (j + 1) = bs [l.getD j 0] := fun j hj => by
  apply ByteArray.ext
  apply Array.ext'
  rw [ext_of s j 1, ← hl]
  simp only [bs, List.getD_eq_getElem?_getD, List.getElem?_eq_getElem (show j < l.length by omega), Option.getD_some]
  rw [List.drop_eq_getElem_cons (by omega)]; rfl
 have HCH : Hid _ := hchr
 have HL : Hid _ := hl
 have HLL : Hid _ := hll
 clear hob h hchr hl hll
 go_enter Tryz.func28, Tryz.ntmps28
 go_wp2
 go_loopw [6, 7] (fun v i wr => ∃ j : Nat, j ≤ s.size ∧ i = .int .i64 j ∧ v = .string (bs (sprA raw l j).1) ∧ MkIn w wr w.heap.size (.slice ra rn rc) raw (sprA raw l j).2 (.slice none 0 0)) (fun _ i _ => s.size - (intOf i).toNat)
 case atStart => exact ⟨0, by omega, rfl, rfl, HOB.out⟩
 case round =>
  obtain ⟨j, hj, rfl, rfl, hmk⟩ := hrel
  obtain ⟨z1, z2⟩ := sprA_len raw l j
  have zA : (bs (sprA raw l j).1).size ≤ 30000 := by rw [bs_size]; omega
  by_cases hlt : j < s.size
  ·have hnx := next_any 4 (by omega) (by omega) hmk (by omega)
   have hk4 := nextF_lt raw 4 (sprA raw l j).2 (by omega)
   have hsu : sprA raw l (j + 1) = ((sprA raw l j).1 ++ pcF (l.getD j 0) (nextF raw 4 (sprA raw l j).2).1, (nextF raw 4 (sprA raw l j).2).2) := rfl
   have hch := HCH.out j hlt
   generalize l.getD j 0 = c at hch hsu
   generalize nextF raw 4 (sprA raw l j).2 = ks at hnx hk4 hsu
   obtain ⟨k, s2⟩ := ks
   simp only at hnx hk4 hsu
   have HNX : Hid _ := hnx
   have HSU : Hid _ := hsu
   have zX : (bs [c]).size = 1 := rfl
   clear hnx hsu hmk HOB
   go_wp2_with fail
   refine Calls.mono HNX.out ?_
   rintro _ w2 ⟨rfl, _, hm2⟩
   have HM2 : Hid _ := hm2
   clear hm2 HNX
   have y32 : (ByteArray.mk #[10]).size = 1 := rfl
   have y33 : (ByteArray.mk #[32, 10, 32]).size = 3 := rfl
   have y40 : (ByteArray.mk #[40, 32]).size = 2 := rfl
   have y41 : (ByteArray.mk #[10, 41]).size = 2 := rfl
   have hq : ∀ d : UInt8, (bs [c]).toList = [d] ↔ c = d := fun d => by
    simp [bs, ByteArray.toList_eq]
   have q32 := hq 32
   have q40 := hq 40
   have q41 := hq 41
   clear hq
   have hc4 : (c = 32 ∧ ((bs [c]).toList == [32]) = true ∧ ((bs [c]).toList == [40]) = false ∧ ((bs [c]).toList == [41]) = false) ∨ (c = 40 ∧ ((bs [c]).toList == [32]) = false ∧ ((bs [c]).toList == [40]) = true ∧ ((bs [c]).toList == [41]) = false) ∨ (c = 41 ∧ ((bs [c]).toList == [32]) = false ∧ ((bs [c]).toList == [40]) = false ∧ ((bs [c]).toList == [41]) = true) ∨ ((c ≠ 32 ∧ c ≠ 40 ∧ c ≠ 41) ∧ ((bs [c]).toList == [32]) = false ∧ ((bs [c]).toList == [40]) = false ∧ ((bs [c]).toList == [41]) = false) := by
    simp only [beq_iff_eq, beq_eq_false_iff_ne, ne_eq, q32, q40, q41]
    by_cases h1 : c = 32
    ·subst h1; exact Or.inl ⟨rfl, rfl, by decide, by decide⟩
    ·by_cases h2 : c = 40
     ·subst h2; exact Or.inr (Or.inl ⟨rfl, by decide, rfl, by decide⟩)
     ·by_cases h3 : c = 41
      ·subst h3; exact Or.inr (Or.inr (Or.inl ⟨rfl, by decide, by decide, rfl⟩))
      ·exact Or.inr (Or.inr (Or.inr ⟨⟨h1, h2, h3⟩, h1, h2, h3⟩))
   clear q32 q40 q41
   have hk : k = 0 ∨ k = 1 ∨ k = 2 ∨ k = 3 := by omega
   clear hch hk4
   rcases hc4 with ⟨hc, e1, e2, e3⟩ | ⟨hc, e1, e2, e3⟩ | ⟨hc, e1, e2, e3⟩ | ⟨hc, e1, e2, e3⟩
   all_goals
    have HC : Hid _ := hc
    clear hc
    rcases hk with rfl | rfl | rfl | rfl
   all_goals
    go_wp2
    go_roundw
    case rel =>
     refine ⟨j + 1, by omega, by go_num, ?_, ?_⟩
     ·rw [HSU.out, ← bs_app]
      have hc := HC.out
      simp only [pcF]
      first | (subst hc; rfl) | (simp [hc]; done)
     ·rw [HSU.out]; exact HM2.out
    case measure => simp [intOf]; omega
  ·have hjk : j = s.size := by omega
   subst hjk
   have HB : Hid _ := hmk.ob.b0
   have HSP : Hid (spreadL raw l = (sprA raw l s.size).1) := by show spreadL raw l = _; unfold spreadL; rw [HLL.out]
   clear hmk
   go_wp2
   go_ret
   exact ⟨by rw [HSP.out]; first | done | rfl, HB.out⟩
theorem wgt_piece (k : Kw) (nm : List UInt8) (i : Nat) (x : List UInt8) (hx : wgtL x + 1 ≤ x.length) (hn : (k = .let_ ∨ k = .loop) → GoodN nm) : wgtL (pieceT k nm i x) ≤ (pieceT k nm i x).length := by
 unfold pieceT
 have h32 : wgt 32 = 2 := rfl
 split
 ·rename_i h
  have hg := hn (by rcases h with h | h; exact Or.inl h.1; exact Or.inr h.1)
  have hl : 1 ≤ nm.length := by cases nm with
   | nil => exact absurd rfl hg.1
   | cons a b => simp
  have hw := wgt_let hg.2.1
  simp only [wgtL_app, wgtL, List.length_append, List.length_cons, List.cons_append]
  omega
 ·simp only [List.nil_append, wgtL, List.length_cons]
  omega
theorem wgt_join (k : Kw) (nm : List UInt8) (hn : (k = .let_ ∨ k = .loop) → GoodN nm) : ∀ (l : List (List UInt8)) (i : Nat), (∀ x ∈ l, wgtL x + 1 ≤ x.length) → wgtL (joinT k nm i l) ≤ (joinT k nm i l).length
 | [], _, _ => Nat.le_refl _
 | x :: r, i, h => by
  have h1 := wgt_piece k nm i x (h x (by simp)) hn
  have h2 := wgt_join k nm hn r (i + 1) (fun y hy => h y (by simp [hy]))
  simp only [joinT, wgtL_app, List.length_append]; omega
mutual
theorem wgt_tidy : ∀ t : PT, t.ok false → wgtL t.tidy + 1 ≤ t.tidy.length
 | .num _ s, h => by
  simp only [PT.ok] at h
  simp only [PT.tidy, wgt_dig h.1]
  cases s with
  | nil => exact absurd h.2 (by decide)
  | cons a b => simp
 | .name _ s, h => by
  simp only [PT.ok] at h
  simp only [PT.tidy, wgt_let h.2.1]
  cases s with
  | nil => exact absurd rfl h.1
  | cons a b => simp
 | .node _ k nm rg kids, h => by
  simp only [PT.ok, Bool.false_eq_true, false_and, if_false] at h
  obtain ⟨_, _, hn, rfl, hk⟩ := h
  have hj := wgt_join k nm (fun hh => by rw [if_pos hh] at hn; exact hn) (tidyL kids) 0 (wgt_tidyL kids hk)
  have hkb : wgtL k.bytes = 0 ∧ 2 ≤ k.bytes.length := by cases k <;> decide
  simp only [PT.tidy, regT, if_true, List.nil_append, wgtL, wgtL_app, List.length_cons, List.length_append, List.length_nil]
  have h40 : wgt 40 = 1 := rfl
  have h41 : wgt 41 = 1 := rfl
  omega
theorem wgt_tidyL : ∀ l : List PT, okL false l → ∀ x ∈ tidyL l, wgtL x + 1 ≤ x.length
 | [], _, x, hx => by simp [tidyL] at hx
 | t :: r, h, x, hx => by
  simp only [okL] at h
  simp only [tidyL, List.mem_cons] at hx
  rcases hx with hx | hx
  ·rw [hx]; exact wgt_tidy t h.1
  ·exact wgt_tidyL r h.2 x hx
end
theorem wrapN_ptx (i : Int) (t : PT) : ∀ (l : List Int) (r : Nat), (wrapN l r i t).ptx = t.ptx
 | [], _ => rfl
 | a :: l, r => by
  simp only [wrapN]
  split
  ·simp only [PT.ptx, if_true, ptxL, List.headD_cons]; exact wrapN_ptx i t l (r + 1)
  ·exact wrapN_ptx i t l (r + 1)
mutual
theorem lay0_ptx (R N : List Int) : ∀ (t : PT) (b : Nat), (t.lay0 R N b).ptx = t.ptx
 | .num _ s, _ => by simp only [PT.lay0, PT.ptx]; rw [value_dec, Int.toNat_natCast]
 | .name _ s, _ => by simp [PT.lay0, PT.ptx]
 | .node _ k nm _ kids, b => by simp only [PT.lay0, PT.ptx, layL_ptx R N kids b]
theorem layL_ptx (R N : List Int) : ∀ (l : List PT) (b : Nat), ptxL (layL R N l b) = ptxL l
 | [], _ => rfl
 | t :: r, b => by simp only [layL, ptxL, wrapN_ptx, lay0_ptx R N t b, layL_ptx R N r _]
end
theorem loose_PE {x : KE} {t : Nat} (h : KT [] x t) (hp : x.prs ≤ 100) (l : List UInt8) (hl : Spr (x.pt []).tidy l) :
  ∃ e, PE false (tokens l) e [] ∧ chkAns e = (0, 0) ∧ e.np = x.pt [] ∧ ∀ fuel env st, ev fuel e env st = ev fuel (x.pt []) env st := by
 have hok := pt_ok (placed := false) (rg := []) rfl h
 have hsk : sk l = (x.pt []).tkz := by
  have := tidy_sk (x.pt []) hok [] stop_nil
  rw [List.append_nil, sk_nil, List.append_nil] at this
  rw [hl.sk, this]
 obtain ⟨e, he, hnp⟩ := sk_PE (x.pt []) hok l hsk
 rw [pt_np] at hnp
 have hwt : WT [] (x.pt []) (tyZ t) := pt_WT (rg := []) h (by simp)
 refine ⟨e, he, chk_ok (np_WT e (by rw [hnp]; exact hwt)) ?_, hnp, fun fuel env st => ?_⟩
 ·rw [← np_prs, hnp, pt_prs [] h]; exact hp
 ·rw [← np_ev, hnp]
theorem tidied_run {x : KE} {t : Nat} (h : KT [] x t) (hpr : x.prs ≤ 75) (hlen : x.len ≤ 1308) (gaps : List Int) (src : ByteArray) (hsrc : src = bs (x.pt []).tidy) :
  ∃ (P Q : ByteArray), src.size ≤ 3000 ∧ P.size ≤ 9000 ∧ (Q = bs (spreadL gaps src.data.toList)) ∧
   (∀ w, Calls Tryz.prog 25 #[.string Q] w fun v w' => v = .returned (.tuple #[.int .i64 (0 : Nat), .int .i64 (0 : Nat)]) ∧ Below w.heap.size w w') ∧
   (∀ w, Lib.TabIs Tryz.prog w "internal/strconv.uint64pow10" .u64 Lib.pow10Tab → Calls Tryz.prog 16 #[.string src] w fun v w' => v = .returned (.tuple #[.string P, .int .i64 (0 : Nat)]) ∧ Below w.heap.size w w') ∧
   (∀ w, Lib.TabIs Tryz.prog w "internal/strconv.uint64pow10" .u64 Lib.pow10Tab → Calls Tryz.prog 16 #[.string Q] w fun v w' => v = .returned (.tuple #[.string P, .int .i64 (0 : Nat)]) ∧ Below w.heap.size w w') ∧
   (∀ w, Lib.TabIs Tryz.prog w "internal/strconv.uint64pow10" .u64 Lib.pow10Tab → Calls Tryz.prog 29 #[.string P] w fun v w' => v = .returned (.tuple #[.string src, .int .i64 0]) ∧ Below w.heap.size w w') ∧
   (∀ w, Lib.TabIs Tryz.prog w "internal/strconv.uint64pow10" .u64 Lib.pow10Tab → Calls Tryz.prog 29 #[.string (bs (spreadL gaps P.data.toList))] w fun v w' => v = .returned (.tuple #[.string src, .int .i64 0]) ∧ Below w.heap.size w w') ∧
   (∀ w, Lib.TabIs Tryz.prog w "internal/strconv.uint64pow10" .u64 Lib.pow10Tab → Calls Tryz.prog 12 #[.string src, .int .i64 (20000 : Nat)] w fun v w' => v = .returned (.tuple #[evalV (ev 20000 (x.pt []) [] ⟨0, 0, 0⟩), .int .i64 (ev 20000 (x.pt []) [] ⟨0, 0, 0⟩).2.e]) ∧ Below w.heap.size w w') ∧
   (∀ w, Lib.TabIs Tryz.prog w "internal/strconv.uint64pow10" .u64 Lib.pow10Tab → Calls Tryz.prog 12 #[.string Q, .int .i64 (20000 : Nat)] w fun v w' => v = .returned (.tuple #[evalV (ev 20000 (x.pt []) [] ⟨0, 0, 0⟩), .int .i64 (ev 20000 (x.pt []) [] ⟨0, 0, 0⟩).2.e]) ∧ Below w.heap.size w w') := by
 obtain ⟨e, hpe, hchk, hnp, hev⟩ := built_PE (placed := false) (rg := []) rfl h (by omega)
 have hplen := pt_len (rg := []) h
 have hsl : src.data.toList = (x.pt []).tidy := by rw [hsrc]; simp [bs]
 have hok0 := pt_ok (placed := false) (rg := []) rfl h
 have htl : (x.pt []).tidy.length ≤ 1383 := by simp at hplen; omega
 have hss : src.size ≤ 3000 := by rw [hsrc, bs_size]; omega
 rw [← hsl] at hpe
 obtain ⟨ns, n0, hN, hL, hPl⟩ := leasePlace_ok src hss e hpe hchk
 have hta := (hpe.tame (tokens_tame _)).1
 obtain ⟨⟨_, hnn⟩, _⟩ := PE.plain hpe (tokens_tame _)
 -- the loose text
 have hspr := spreadL_spr gaps (x.pt []).tidy
 have hlo : (spreadL gaps (x.pt []).tidy).length ≤ 2766 := by
  have := hspr.len
  have := wgt_tidy _ hok0
  omega
 obtain ⟨e', hpe', hchk', hnp', hev'⟩ := loose_PE h (by omega) _ hspr
 obtain ⟨Q, hQ⟩ : ∃ Q, Q = bs (spreadL gaps (x.pt []).tidy) := ⟨_, rfl⟩
 have hQl : Q.data.toList = spreadL gaps (x.pt []).tidy := by rw [hQ]; simp [bs]
 have hQs : Q.size ≤ 3000 := by rw [hQ, bs_size]; omega
 rw [← hQl] at hpe'
 obtain ⟨ns', n0', hN', hL', hPl'⟩ := leasePlace_ok Q hQs e' hpe' hchk'
 rw [← place_np (hnp.trans hnp'.symm) hN hN'] at hPl'
 -- what Place wrote
 have hprs : e.prs ≤ 75 := by rw [← np_prs, hnp, pt_prs _ h]; exact hpr
 have hfl := layF_len (n0 := n0) hN.na
 have hnl : (layN e ns n0).length ≤ 75 := by unfold layN newsL; rw [List.length_map, List.length_range]; omega
 obtain ⟨hb1, hb2⟩ := layR_bd e ns n0 (by omega)
 have hok : e.ok false := np_okY e (by rw [hnp]; exact hok0)
 have hshow := hN.na.shows0
 have hok2 := lay_ok hL.pr (show (layN e ns n0).length ≤ 999 by omega) e 0 hshow hta hok
 have hpx : e.ptx = (x.pt []).tidy := by rw [← np_ptx, hnp, pt_ptx h]
 have hwl : (e.wtx (layR e ns n0) (layN e ns n0) 0).length ≤ 2733 := by
  have h1 := wtx_more hb1 (show (layN e ns n0).length ≤ 150 by omega) hL.pr e hshow hnn
  rw [hpx] at h1
  omega
 have hlt := lay_tidy (layR e ns n0) (layN e ns n0) e 0 hnn
 obtain ⟨L, hLd⟩ : ∃ L, L = e.lay (layR e ns n0) (layN e ns n0) 0 := ⟨_, rfl⟩
 rw [← hLd] at hok2 hlt
 have hLnp : L.np = L := by rw [hLd]; exact lay_np _ _ e 0
 have hLpx : L.ptx = (x.pt []).tidy := by rw [hLd, ← hpx]; unfold PT.lay; rw [wrapN_ptx, lay0_ptx]
 have hLs : sk L.tidy = L.tkz := by
  have := tidy_sk L hok2 [] stop_nil
  rw [List.append_nil, sk_nil, List.append_nil] at this; exact this
 rw [← hlt] at hPl hPl' hwl
 have her : ∀ (s : ByteArray), s.size ≤ 9000 → sk s.data.toList = L.tkz → ∀ w, Lib.TabIs Tryz.prog w "internal/strconv.uint64pow10" .u64 Lib.pow10Tab → Calls Tryz.prog 29 #[.string s] w fun v w' => v = .returned (.tuple #[.string src, .int .i64 0]) ∧ Below w.heap.size w w' := fun s hs hsk w htab => by
  obtain ⟨e3, hp3, hn3⟩ := sk_PE L hok2 s.data.toList hsk
  have := leaseErase_ok s w hs htab e3 hp3
  rw [← np_ptx, hn3, hLnp, hLpx, ← hsrc] at this
  exact this
 have hP9 : (bs L.tidy).size ≤ 9000 := by rw [bs_size]; omega
 have hPd : (bs L.tidy).data.toList = L.tidy := by simp [bs]
 refine ⟨bs L.tidy, Q, hss, hP9, by rw [hsl]; exact hQ, fun w => ?_, hPl, hPl', her _ hP9 (by rw [hPd]; exact hLs), her _ ?_ ?_, fun w htab => ?_, fun w htab => ?_⟩
 ·refine leaseCheck_any Q w 0 0 (fun W => ?_)
  refine Calls.mono (readPlain_full Q W hQs e' hpe') ?_
  rintro v w' ⟨x1, n1, c1, x2, n2, c2, ns, hv, hb, _, _⟩
  rw [hchk'] at hv
  exact ⟨x1, n1, c1, x2, n2, c2, hv, hb⟩
 ·have h1 := (spreadL_spr gaps (bs L.tidy).data.toList).len
  have h2 := wgtL_le (bs L.tidy).data.toList
  rw [bs_size]
  rw [hPd] at h1 h2 ⊢
  omega
 ·have : (bs (spreadL gaps (bs L.tidy).data.toList)).data.toList = spreadL gaps (bs L.tidy).data.toList := by simp [bs]
  rw [this, (spreadL_spr gaps _).sk, hPd]; exact hLs
 ·have := leaseEval_tree src w hss htab e hpe (by rw [hchk]) 20000 (by omega)
  rw [hev] at this; exact this
 ·have := leaseEval_tree Q w hQs htab e' hpe' (by rw [hchk']) 20000 (by omega)
  rw [hev'] at this; exact this
def aggE (S : ByteArray) (a b c d : Int) : Value := .agg #[.string S, .int .i64 a, .int .i64 b, .int .i64 c, .int .i64 d]
set_option maxRecDepth 100000 in
set_option maxHeartbeats 4000000 in
theorem Tidied_walk (t : Int) (ra : Option Addr) (rn rc : Nat) (ga : Option Addr) (gn gc : Nat) (w : World) (x : KE) (src P Q S2 US : ByteArray) (Ua Ub Uc Ud : Int) (E : Nat)
  (HBD : Hid (Calls Tryz.prog 21 #[.int .i64 t, .slice ra rn rc] w fun e w' => ∃ p, e = .returned (.pointer (some ⟨p, 0, none⟩)) ∧ Below w.heap.size w w' ∧ KIn w' x p))
  (HTX : Hid (∀ W' p, Below w.heap.size w W' → KIn W' x p → Calls Tryz.prog 22 #[.pointer (some ⟨p, 0, none⟩), .string ⟨#[]⟩] W' fun e w' => e = .returned (.string src) ∧ Below W'.heap.size W' w'))
  (HS1 : Hid (∀ W, Below w.heap.size w W → Calls Tryz.prog 28 #[.string src, .slice ga gn gc] W fun e w' => e = .returned (.string Q) ∧ Below W.heap.size W w'))
  (HS2 : Hid (∀ W, Below w.heap.size w W → Calls Tryz.prog 28 #[.string P, .slice ga gn gc] W fun e w' => e = .returned (.string S2) ∧ Below W.heap.size W w'))
  (HCK : Hid (∀ W, Calls Tryz.prog 25 #[.string Q] W fun e w' => e = .returned (.tuple #[.int .i64 0, .int .i64 0]) ∧ Below W.heap.size W w'))
  (HP1 : Hid (∀ W, Below w.heap.size w W → Calls Tryz.prog 16 #[.string src] W fun e w' => e = .returned (.tuple #[.string P, .int .i64 0]) ∧ Below W.heap.size W w'))
  (HP2 : Hid (∀ W, Below w.heap.size w W → Calls Tryz.prog 16 #[.string Q] W fun e w' => e = .returned (.tuple #[.string P, .int .i64 0]) ∧ Below W.heap.size W w'))
  (HE1 : Hid (∀ W, Below w.heap.size w W → Calls Tryz.prog 29 #[.string P] W fun e w' => e = .returned (.tuple #[.string src, .int .i64 0]) ∧ Below W.heap.size W w'))
  (HE2 : Hid (∀ W, Below w.heap.size w W → Calls Tryz.prog 29 #[.string S2] W fun e w' => e = .returned (.tuple #[.string src, .int .i64 0]) ∧ Below W.heap.size W w'))
  (HV1 : Hid (∀ W, Below w.heap.size w W → Calls Tryz.prog 12 #[.string src, .int .i64 20000] W fun e w' => e = .returned (.tuple #[aggE US Ua Ub Uc Ud, .int .i64 E]) ∧ Below W.heap.size W w'))
  (HV2 : Hid (∀ W, Below w.heap.size w W → Calls Tryz.prog 12 #[.string Q, .int .i64 20000] W fun e w' => e = .returned (.tuple #[aggE US Ua Ub Uc Ud, .int .i64 E]) ∧ Below W.heap.size W w')) :
  Calls Tryz.prog 8 #[.int .i64 t, .slice ra rn rc, .slice ga gn gc] w fun e w' => e = .returned (.bool true) ∧ Below w.heap.size w w' := by
 unfold aggE at HV1 HV2
 go_enter Tryz.func8, Tryz.ntmps8
 go_wp2_with fail
 refine Calls.mono HBD.out ?_
 rintro _ w1 ⟨p, rfl, hb1, hk1⟩
 have HB1 : Hid _ := hb1
 have HK1 : Hid _ := hk1
 clear hb1 hk1 HBD
 go_wp2_with fail
 refine Calls.mono (HTX.out w1 p HB1.out HK1.out) ?_
 rintro _ w2 ⟨rfl, hb2⟩
 have HB2 : Hid _ := HB1.out.trans (hb2.mono HB1.out.size)
 clear hb2 HB1 HK1 HTX
 go_wp2_with fail
 refine Calls.mono (HS1.out w2 HB2.out) ?_
 rintro _ w3 ⟨rfl, hb3⟩
 have HB3 : Hid _ := HB2.out.trans (hb3.mono HB2.out.size)
 clear hb3 HB2 HS1
 go_wp2_with fail
 refine Calls.mono (HCK.out w3) ?_
 rintro _ w4 ⟨rfl, hb4⟩
 have HB4 : Hid _ := HB3.out.trans (hb4.mono HB3.out.size)
 clear hb4 HB3 HCK
 go_wp2_with fail
 refine Calls.mono (HP1.out w4 HB4.out) ?_
 rintro _ w5 ⟨rfl, hb5⟩
 have HB5 : Hid _ := HB4.out.trans (hb5.mono HB4.out.size)
 clear hb5 HB4 HP1
 go_wp2_with fail
 refine Calls.mono (HP2.out w5 HB5.out) ?_
 rintro _ w6 ⟨rfl, hb6⟩
 have HB6 : Hid _ := HB5.out.trans (hb6.mono HB5.out.size)
 clear hb6 HB5 HP2
 go_wp2_with fail
 refine Calls.mono (HE1.out w6 HB6.out) ?_
 rintro _ w7 ⟨rfl, hb7⟩
 have HB7 : Hid _ := HB6.out.trans (hb7.mono HB6.out.size)
 clear hb7 HB6 HE1
 go_wp2_with fail
 refine Calls.mono (HS2.out w7 HB7.out) ?_
 rintro _ w8 ⟨rfl, hb8⟩
 have HB8 : Hid _ := HB7.out.trans (hb8.mono HB7.out.size)
 clear hb8 HB7 HS2
 go_wp2_with fail
 refine Calls.mono (HE2.out w8 HB8.out) ?_
 rintro _ w9 ⟨rfl, hb9⟩
 have HB9 : Hid _ := HB8.out.trans (hb9.mono HB8.out.size)
 clear hb9 HB8 HE2
 have qP : (P.toList == P.toList) = true := by simp
 have qS : (src.toList == src.toList) = true := by simp
 go_wp2_with fail
 refine Calls.mono (HV1.out w9 HB9.out) ?_
 rintro _ w10 ⟨rfl, hb10⟩
 have hB10 := HB9.out.trans (hb10.mono HB9.out.size)
 have HB10 : Hid _ := hB10.alloc hB10.size (.cells #[.string US, .int .i64 Ua, .int .i64 Ub, .int .i64 Uc, .int .i64 Ud] 23 (0, 0))
 have HQ10 : Hid _ := blk_new w10 (.cells #[.string US, .int .i64 Ua, .int .i64 Ub, .int .i64 Uc, .int .i64 Ud] 23 (0, 0))
 clear hb10 hB10 HB9 HV1
 go_wp2_with fail
 refine Calls.mono (HV2.out _ HB10.out) ?_
 rintro _ w11 ⟨rfl, hb11⟩
 have hB11 := HB10.out.trans (hb11.mono HB10.out.size)
 have hq11 := (hb11.block _ (blk_lt HQ10.out)).trans HQ10.out
 have HB11 : Hid _ := hB11.alloc hB11.size (.cells #[.string US, .int .i64 Ua, .int .i64 Ub, .int .i64 Uc, .int .i64 Ud] 23 (0, 0))
 obtain ⟨q0, q1, q2, q3, q4⟩ := res_cells hq11
 have ql := blk_lt hq11
 have qn := Nat.ne_of_lt ql
 clear hb11 hB11 hq11 HB10 HQ10 HV2
 go_wp2_with fail
 refine Calls.mono (ksame_any US Ua Ub Uc Ud _) ?_
 rintro _ w12 ⟨rfl, hb12⟩
 have HB12 : Hid _ := HB11.out.trans (hb12.mono HB11.out.size)
 clear hb12 HB11
 go_wp2
 go_ret
 exact ⟨rfl, HB12.out⟩
theorem Tidied_any (t : Int) (rv gv : Value) (raw gaps : List Int) (w : World) (ht : I64 t) (h : RawIn w rv raw) (hg : RawIn w gv gaps) (htab : Lib.TabIs Tryz.prog w "internal/strconv.uint64pow10" .u64 Lib.pow10Tab) :
  Calls Tryz.prog 8 #[.int .i64 t, rv, gv] w fun v w' => v = .returned (.bool true) ∧ Below w.heap.size w w' := by
 have hsh : ∀ {v : Value} {r : List Int}, RawIn w v r → ∃ ra rn rc, v = .slice ra rn rc := fun h => by
  rcases h.2 with ⟨h1, _⟩ | ⟨a, cap, h1, _, _⟩
  ·exact ⟨_, _, _, h1⟩
  ·exact ⟨_, _, _, h1⟩
 obtain ⟨ra, rn, rc, rfl⟩ := hsh h
 obtain ⟨ga, gn, gc, rfl⟩ := hsh hg
 have hbd := build_any w t (.slice ra rn rc) raw ht h
 obtain ⟨hKT, hlen, hprs, _⟩ := build_ok t raw
 generalize buildF t raw = x at *
 have hplen := pt_len (rg := []) hKT
 have htx := ktext_any [] hKT (by simp)
 obtain ⟨src, hsrc⟩ : ∃ src, src = bs (x.pt []).tidy := ⟨_, rfl⟩
 have hit : ∀ W, Below w.heap.size w W → ItoaOk W := fun W hW => by
  intro n W' hn hW'
  exact itoa_ok w htab n W' hn (hW.trans (hW'.mono hW.size))
 have hTx : ∀ W p, Below w.heap.size w W → KIn W x p → Calls Tryz.prog 22 #[.pointer (some ⟨p, 0, none⟩), .string ⟨#[]⟩] W fun v w' => v = .returned (.string src) ∧ Below W.heap.size W w' := fun W p hW hk => by
  have := htx p W hk (by simp at hplen; omega) (fun W' hW' => hit W' (hW.trans (hW'.mono hW.size)))
  rw [← hsrc] at this; exact this
 obtain ⟨P, Q, hs3, hP9, rfl, hck, hp1, hp2, he1, he2, hv1, hv2⟩ := tidied_run hKT hprs hlen gaps src hsrc
 have htb := fun W (hW : Below w.heap.size w W) => Lib.tabBelow_of_tabIs htab W hW
 have hS1 := fun W (hW : Below w.heap.size w W) => spread_any W src (by omega) (.slice ga gn gc) gaps (hg.below hW)
 have hS2 := fun W (hW : Below w.heap.size w W) => spread_any W P hP9 (.slice ga gn gc) gaps (hg.below hW)
 obtain ⟨S, a, b, c, d, hV⟩ : ∃ S a b c d, evalV (ev 20000 (x.pt []) [] ⟨0, 0, 0⟩) = aggE S a b c d := by
  unfold evalV; split
  ·exact ⟨_, _, _, _, _, rfl⟩
  ·exact ⟨_, _, _, _, _, rfl⟩
 rw [hV] at hv1 hv2
 exact Tidied_walk t ra rn rc ga gn gc w x src P _ _ S a b c d _ hbd hTx hS1 hS2 hck (fun W hW => hp1 W (htb W hW)) (fun W hW => hp2 W (htb W hW)) (fun W hW => he1 W (htb W hW)) (fun W hW => he2 W (htb W hW)) (fun W hW => hv1 W (htb W hW)) (fun W hW => hv2 W (htb W hW))
end Go.Proofs.YtpicaknklgccoaaGreatDoor
