import Derived.Test.YtpicaknklgccoaaGreatDoorX33
import Derived.Test.YtpicaknklgccoaaGreatDoorX26
import Derived.Test.YtpicaknklgccoaaGreatDoorX14
import Derived.Test.YtpicaknklgccoaaGreatDoorX32
import Derived.Test.YtpicaknklgccoaaGreatDoorX34
namespace Go.Proofs.YtpicaknklgccoaaGreatDoor
open Go.RowKit
theorem text_13 : ∀ (X : Vl) (v : MV) (m : MM), m.fault = 0 → (mText X v m).fault = 0 ∨ (mText X v m).fault = 13
 | .n _, _, m, h => Or.inl h
 | .p a b, v, m, h => by
  simp only [mText]
  have hu : (m.use v).2.fault = 0 ∨ (m.use v).2.fault = 13 := by
   unfold MM.use MM.stop
   split
   ·exact Or.inl h
   ·simp only; split
    ·exact Or.inl h
    ·first | exact Or.inr rfl | (rw [if_pos h]; exact Or.inr rfl)
  have h1 : (mText a (m.use v).1.a (m.use v).2).fault = 0 ∨ (mText a (m.use v).1.a (m.use v).2).fault = 13 := by
   rcases hu with hu | hu
   ·exact text_13 a _ _ hu
   ·rw [text_keep a _ _ (by rw [hu]; decide)]; exact Or.inr hu
  rcases h1 with h1 | h1
  ·exact text_13 b _ _ h1
  ·rw [text_keep b _ _ (by rw [h1]; decide)]; exact Or.inr h1
theorem text_live {m : MM} : ∀ {T : Ty} {X : Vl} {v : MV}, Rep m.cells X v → LiveR m T v → mText X v m = m
 | _, .n _, _, _, _ => rfl
 | .n, .p a b, v, hr, hl => by
  simp only [Rep] at hr
  simp only [LiveR] at hl
  rw [hr.1] at hl; exact absurd hl.1 (by decide)
 | .p r A B, .p a b, v, hr, hl => by
  obtain ⟨u1, u2, u3⟩ := use_lv hl
  simp only [LiveR] at hl
  obtain ⟨hc, i, c, g, hv, hi, h3, h4, _, _, _⟩ := hl
  simp only [Rep] at hr
  obtain ⟨_, i', c', hv', hi', ha, hb⟩ := hr
  have hii : i' = i := by omega
  subst hii
  have hcc : c' = c := by rw [hi] at hi'; exact (Option.some.inj hi').symm
  subst hcc
  have e2 : m.cells.getD v.n.toNat c0 = c' := by rw [hv, Int.toNat_natCast, List.getD_eq_getElem?_getD, hi]; rfl
  have hil := (List.getElem?_eq_some_iff.1 hi).1
  have e1 : (m.use v).1 = c' := by
   unfold MM.use
   rw [if_neg (by rw [hc, hv]; simp; omega), e2]
  simp only [mText]
  rw [u1, e1]
  rw [e1] at u2 u3
  rw [text_live ha u2, text_live hb u3]
def RunAns (R : Vl × ESt) (v : Value) (E : Nat) : Prop :=
 (E = 13 ∧ v = .agg #[.string ⟨#[]⟩, .int .i64 0, .int .i64 0, .int .i64 0, .int .i64 0]) ∨ (R.2.e = 12 ∧ E = 12 ∧ v = .agg #[.string ⟨#[]⟩, .int .i64 0, .int .i64 0, .int .i64 0, .int .i64 0]) ∨
  (R.2.e = 0 ∧ E = 0 ∧ ∃ c d : Int, v = .agg #[.string (bs R.1.txt), .int .i64 R.2.steps, .int .i64 R.2.cells, .int .i64 c, .int .i64 d])
theorem run_any (fuel k : Nat) {t : PT} {T : Ty} (hwt : WT [] t T) (hT : T.size ≤ 63) (hr : t.rgd) (hk : t.cnt ≤ k) :
  ∃ X, Rep (mW fuel t [] 0 ((m0 k).opn (-1))).2.cells X (mW fuel t [] 0 ((m0 k).opn (-1))).1 ∧ X.size ≤ 63 ∧
   RunAns (ev fuel t.era [] ⟨0, 0, 0⟩) (runV (mText X (mW fuel t [] 0 ((m0 k).opn (-1))).1 (mW fuel t [] 0 ((m0 k).opn (-1))).2) X) (mText X (mW fuel t [] 0 ((m0 k).opn (-1))).1 (mW fuel t [] 0 ((m0 k).opn (-1))).2).fault ∧
   (∀ T', WTR [] t T' → (mText X (mW fuel t [] 0 ((m0 k).opn (-1))).1 (mW fuel t [] 0 ((m0 k).opn (-1))).2).fault ≠ 13) := by
 have hlen : ((m0 k).opn (-1)).named.length = k := by simp [m0, MM.opn]
 have her : ER ((m0 k).opn (-1)).named ((m0 k).opn (-1)).cells [] [] [] 0 := fun s T h => by simp [look] at h
 have hs0 : Sw fuel ⟨0, 0, 0⟩ ((m0 k).opn (-1)) := ⟨rfl, rfl, rfl, Nat.zero_le _, rfl, by simp [m0, MM.opn]⟩
 have hf := mW_fits fuel hwt [] 0 ((m0 k).opn (-1)) hr her.ef (by rw [hlen]; omega)
 have hsim := mW_evW fuel hwt [] 0 ((m0 k).opn (-1)) [] ⟨0, 0, 0⟩ hr her (by rw [hlen]; omega) hs0
 have hlv : ∀ T', WTR [] t T' → LvO ((m0 k).opn (-1)) (mW fuel t [] 0 ((m0 k).opn (-1))) 0 t.cnt T' := fun T' h => mW_live fuel h [] 0 ((m0 k).opn (-1)) (fun s U hs => by simp [look] at hs) (by rw [hlen]; omega) rfl (by simp [m0, MM.opn])
 generalize mW fuel t [] 0 ((m0 k).opn (-1)) = x at hf hsim hlv ⊢
 generalize ev fuel t.era [] ⟨0, 0, 0⟩ = y at hsim ⊢
 rcases hsim with ⟨h1, h2, h3⟩ | hB | hD
 ·refine ⟨y.1, h2, by rw [rep_size (cells := x.2.cells) h3]; exact hT, ?_, fun T' hw => ?_⟩
  ·obtain ⟨c1, _, _, c4, _, _⟩ := text_same y.1 x.1 x.2
   rcases text_13 y.1 x.1 x.2 h1.f with h0 | h13
   ·right; right
    refine ⟨h1.e, h0, (mText y.1 x.1 x.2).most, (mText y.1 x.1 x.2).live, ?_⟩
    unfold runV
    rw [if_neg (fun h => h h0), c4, c1, h1.s, h1.c]
   ·left
    refine ⟨h13, ?_⟩
    unfold runV
    rw [if_pos (by rw [h13]; decide)]
  ·rcases (hlv T' hw).ok with h12 | ⟨h0, hl⟩
   ·rw [h1.f] at h12; cases h12
   ·rw [text_live h2 hl, h0]; decide
 ·obtain ⟨X, hX, hXs⟩ := fits_rp hf.2
  have hne : x.2.fault ≠ 0 := by rw [hB.2]; decide
  refine ⟨X, hX, by omega, ?_, fun T' hw => ?_⟩
  ·right; left
   rw [text_keep X x.1 x.2 hne]
   refine ⟨hB.1, hB.2, ?_⟩
   unfold runV
   rw [if_pos hne]
  ·rw [text_keep X x.1 x.2 hne, hB.2]; decide
 ·obtain ⟨X, hX, hXs⟩ := fits_rp hf.2
  have hne : x.2.fault ≠ 0 := by rw [hD]; decide
  refine ⟨X, hX, by omega, ?_, fun T' hw => ?_⟩
  ·left
   rw [text_keep X x.1 x.2 hne]
   refine ⟨hD, ?_⟩
   unfold runV
   rw [if_pos hne]
  ·rcases (hlv T' hw).ok with h12 | ⟨h0, _⟩
   ·rw [hD] at h12; cases h12
   ·rw [hD] at h0; cases h0
theorem leaseRun_placed (s : ByteArray) (hs : s.size ≤ 9000) (e : PT) (U : Ty) (hp : PE true (tokens s.data.toList) e []) (hc : chkAns e = (0, 0)) (hwt : WT [] e U) (hU : U.size ≤ 63) (fuel : Nat) (hf : fuel ≤ 20000) :
  ∃ (v : Value) (E : Nat), RunAns (ev fuel e.era [] ⟨0, 0, 0⟩) v E ∧ (∀ T', WTR [] e T' → E ≠ 13) ∧ ∀ w, Lib.TabIs Tryz.prog w "internal/strconv.uint64pow10" .u64 Lib.pow10Tab → Calls Tryz.prog 18 #[.string s, .int .i64 fuel] w fun r w' => r = .returned (.tuple #[v, .int .i64 E]) ∧ Below w.heap.size w w' := by
 have hwf := hp.wf
 have hcnt := Study_len hp
 have hrg := rgdO_of e (hp.tame (tokens_tame _)).1 (hp.rg3 (tokens_rg _)).1
 obtain ⟨X, hX, hXs, hans, h13⟩ := run_any fuel e.cnt hwt hU hrg (Nat.le_refl _)
 refine ⟨_, _, hans, h13, fun w htab => ?_⟩
 obtain ⟨S, a, b, c, d, hV⟩ : ∃ S a b c d, runV (mText X (mW fuel e [] 0 ((m0 e.cnt).opn (-1))).1 (mW fuel e [] 0 ((m0 e.cnt).opn (-1))).2) X = .agg #[.string S, .int .i64 a, .int .i64 b, .int .i64 c, .int .i64 d] := by
  unfold runV; split
  ·exact ⟨_, _, _, _, _, rfl⟩
  ·exact ⟨_, _, _, _, _, rfl⟩
 rw [hV]
 refine leaseRun_ok s fuel w e 0 S a b c d _ (fun w => ?_) (fun w' x1 n1 c1 x2 n2 c2 ns hb hTr hna => ?_)
 ·have := readPlaced_full s w hs e hp
  rw [hc] at this
  exact this
 ·have hnl := hna.len
  refine run_ok w' x1 n1 c1 x2 n2 c2 fuel hf S a b c d _ (fun w'' hb'' => ?_)
  have := Run_any x1 n1 c1 x2 n2 c2 fuel ns (opn e 0) hf (by omega) w'' (hTr.below hb'') (Lib.tabBelow_of_tabIs htab w'' (hb.trans (hb''.mono hb.size))) e hna.showsM0 hwf hrg hnl.symm _ rfl X (by rw [hnl]; exact hX) hXs
  rw [hnl] at this
  rw [hV] at this
  exact this
end Go.Proofs.YtpicaknklgccoaaGreatDoor
namespace Go.Proofs.YtpicaknklgccoaaGreatDoor
open Go.Lib (decDigits)
mutual
theorem np_era : ∀ e : PT, e.era.np = e.np.era
 | .num _ _ => rfl
 | .name _ _ => rfl
 | .node p k nm rg kids => by
  simp only [PT.era, PT.np]
  split
  ·rw [← npL_era kids]
   cases eraL kids with
   | nil => rfl
   | cons a r => rfl
  ·simp only [PT.np, npL_era kids]
theorem npL_era : ∀ l : List PT, npL (eraL l) = eraL (npL l)
 | [] => rfl
 | t :: r => by simp only [eraL, npL, np_era t, npL_era r]
end
mutual
theorem np_ptx : ∀ e : PT, e.np.ptx = e.ptx
 | .num _ _ => rfl
 | .name _ _ => rfl
 | .node p k nm rg kids => by simp only [PT.ptx, PT.np, npL_ptx kids]
theorem npL_ptx : ∀ l : List PT, ptxL (npL l) = ptxL l
 | [] => rfl
 | t :: r => by simp only [ptxL, npL, np_ptx t, npL_ptx r]
end
end Go.Proofs.YtpicaknklgccoaaGreatDoor
namespace Go.Proofs.YtpicaknklgccoaaGreatDoor
structure Fu {α : Type} (F' : Nat) (st : ESt) (x x' : α × ESt) : Prop where
 up1 : st.steps ≤ x.2.steps
 up2 : st.e ≠ 0 → x.2.e ≠ 0
 eq : x.2.e = 0 → x.2.steps ≤ F' → x' = x
theorem Fu.same {α : Type} {F' : Nat} {st : ESt} {v : α} : Fu F' st (v, st) (v, st) := ⟨Nat.le_refl _, id, fun _ _ => rfl⟩
theorem made_e (k : Kw) (vs : List Vl) (st : ESt) : (madeV k vs st).2.e = st.e ∧ (madeV k vs st).2.steps = st.steps := by
 unfold madeV; split <;> exact ⟨rfl, rfl⟩
theorem begun_fu {F F' : Nat} {st : ESt} {f f' : ESt → Vl × ESt} (h : ∀ st, Fu F' st (f st) (f' st)) : Fu F' st (begun F st f) (begun F' st f') := by
 unfold begun
 by_cases he : st.e ≠ 0
 ·rw [if_pos he, if_pos he]; exact .same
 ·rw [if_neg he, if_neg he]
  by_cases hs : st.steps = F
  ·rw [if_pos hs]
   exact ⟨Nat.le_refl _, fun h => absurd h he, fun h => by cases h⟩
  ·rw [if_neg hs]
   have H := h { st with steps := st.steps + 1 }
   have u1 := H.up1
   simp only at u1
   refine ⟨by omega, fun h => absurd h he, fun h0 h1 => ?_⟩
   rw [if_neg (by omega)]
   exact H.eq h0 h1
theorem turns_fu {F' : Nat} {f f' : Vl → ESt → Vl × ESt} (h : ∀ v st, Fu F' st (f v st) (f' v st)) : ∀ (k : Nat) (v : Vl) (st : ESt), Fu F' st (turns f k v st) (turns f' k v st)
 | 0, _, _ => .same
 | k + 1, v, st => by
  simp only [turns]
  by_cases he : st.e ≠ 0
  ·rw [if_pos he, if_pos he]; exact .same
  ·rw [if_neg he, if_neg he]
   have A := h v st
   have B := turns_fu h k (f v st).1 (f v st).2
   refine ⟨Nat.le_trans A.up1 B.up1, fun h => absurd h he, fun h0 h1 => ?_⟩
   have ha : (f v st).2.e = 0 := Decidable.byContradiction fun hn => B.up2 hn h0
   rw [A.eq ha (Nat.le_trans B.up1 h1)]
   exact B.eq h0 h1
mutual
theorem ev_fu (F F' : Nat) : ∀ (t : PT) (env : VEnv) (st : ESt), Fu F' st (ev F t env st) (ev F' t env st)
 | .num _ s, env, st => by unfold ev; exact begun_fu (fun _ => .same)
 | .name _ s, env, st => by unfold ev; exact begun_fu (fun _ => .same)
 | .node _ k nm _ kids, env, st => by
  unfold ev
  refine begun_fu (fun st => ?_)
  by_cases h1 : k = .let_
  ·simp only [if_pos h1]; exact evLet_fu F F' nm kids env st
  ·by_cases h2 : k = .if_
   ·simp only [if_neg h1, if_pos h2]; exact evIf_fu F F' kids env st
   ·by_cases h3 : k = .loop
    ·simp only [if_neg h1, if_neg h2, if_pos h3]; exact evLoop_fu F F' nm kids env st
    ·simp only [if_neg h1, if_neg h2, if_neg h3]
     have K := evKids_fu F F' kids env st
     generalize evKids F kids env st = x at K ⊢
     generalize evKids F' kids env st = x' at K ⊢
     by_cases he : x.2.e ≠ 0
     ·rw [if_pos he]
      exact ⟨K.up1, K.up2, fun h => absurd h he⟩
     ·rw [if_neg he]
      obtain ⟨m1, m2⟩ := made_e k x.1 x.2
      refine ⟨by rw [m2]; exact K.up1, fun h => by rw [m1]; exact K.up2 h, fun h0 h5 => ?_⟩
      rw [m1] at h0
      rw [m2] at h5
      rw [K.eq h0 h5, if_neg he]
theorem evKids_fu (F F' : Nat) : ∀ (ts : List PT) (env : VEnv) (st : ESt), Fu F' st (evKids F ts env st) (evKids F' ts env st)
 | [], _, st => by simp only [evKids]; exact .same
 | a :: r, env, st => by
  simp only [evKids]
  have A := ev_fu F F' a env st
  have B := evKids_fu F F' r env (ev F a env st).2
  refine ⟨Nat.le_trans A.up1 B.up1, fun h => B.up2 (A.up2 h), fun h0 h1 => ?_⟩
  have ha : (ev F a env st).2.e = 0 := Decidable.byContradiction fun hn => B.up2 hn h0
  rw [A.eq ha (Nat.le_trans B.up1 h1), B.eq h0 h1]
theorem evLet_fu (F F' : Nat) (nm : List UInt8) : ∀ (ts : List PT) (env : VEnv) (st : ESt), Fu F' st (evLet F nm ts env st) (evLet F' nm ts env st)
 | [], _, _ => .same
 | [_], _, _ => .same
 | [a, b], env, st => by
  simp only [evLet]
  have A := ev_fu F F' a env st
  have B := ev_fu F F' b (env ++ [(nm, (ev F a env st).1)]) (ev F a env st).2
  refine ⟨Nat.le_trans A.up1 B.up1, fun h => B.up2 (A.up2 h), fun h0 h1 => ?_⟩
  have ha : (ev F a env st).2.e = 0 := Decidable.byContradiction fun hn => B.up2 hn h0
  rw [A.eq ha (Nat.le_trans B.up1 h1), B.eq h0 h1]
 | _ :: _ :: _ :: _, _, _ => .same
theorem evIf_fu (F F' : Nat) : ∀ (ts : List PT) (env : VEnv) (st : ESt), Fu F' st (evIf F ts env st) (evIf F' ts env st)
 | [], _, _ => .same
 | [_], _, _ => .same
 | [_, _], _, _ => .same
 | [a, b, c], env, st => by
  simp only [evIf]
  have A := ev_fu F F' a env st
  by_cases hv : (ev F a env st).1.num ≠ 0
  ·have B := ev_fu F F' b env (ev F a env st).2
   rw [if_pos hv]
   refine ⟨Nat.le_trans A.up1 B.up1, fun h => B.up2 (A.up2 h), fun h0 h1 => ?_⟩
   have ha : (ev F a env st).2.e = 0 := Decidable.byContradiction fun hn => B.up2 hn h0
   rw [A.eq ha (Nat.le_trans B.up1 h1), if_pos hv, B.eq h0 h1]
  ·have B := ev_fu F F' c env (ev F a env st).2
   rw [if_neg hv]
   refine ⟨Nat.le_trans A.up1 B.up1, fun h => B.up2 (A.up2 h), fun h0 h1 => ?_⟩
   have ha : (ev F a env st).2.e = 0 := Decidable.byContradiction fun hn => B.up2 hn h0
   rw [A.eq ha (Nat.le_trans B.up1 h1), if_neg hv, B.eq h0 h1]
 | _ :: _ :: _ :: _ :: _, _, _ => .same
theorem evLoop_fu (F F' : Nat) (nm : List UInt8) : ∀ (ts : List PT) (env : VEnv) (st : ESt), Fu F' st (evLoop F nm ts env st) (evLoop F' nm ts env st)
 | [], _, _ => .same
 | [_], _, _ => .same
 | [_, _], _, _ => .same
 | [a, b, c], env, st => by
  simp only [evLoop]
  have A := ev_fu F F' a env st
  have B := ev_fu F F' b env (ev F a env st).2
  have C := turns_fu (F' := F') (f := fun v st => ev F c (env ++ [(nm, v)]) st) (f' := fun v st => ev F' c (env ++ [(nm, v)]) st) (fun v st => ev_fu F F' c _ st) (ev F a env st).1.num (ev F b env (ev F a env st).2).1 (ev F b env (ev F a env st).2).2
  refine ⟨Nat.le_trans A.up1 (Nat.le_trans B.up1 C.up1), fun h => C.up2 (B.up2 (A.up2 h)), fun h0 h1 => ?_⟩
  have hb : (ev F b env (ev F a env st).2).2.e = 0 := Decidable.byContradiction fun hn => C.up2 hn h0
  have ha : (ev F a env st).2.e = 0 := Decidable.byContradiction fun hn => B.up2 hn hb
  rw [A.eq ha (Nat.le_trans B.up1 (Nat.le_trans C.up1 h1)), B.eq hb (Nat.le_trans C.up1 h1), C.eq h0 h1]
 | _ :: _ :: _ :: _ :: _, _, _ => .same
end
end Go.Proofs.YtpicaknklgccoaaGreatDoor
namespace Go.Proofs.YtpicaknklgccoaaGreatDoor
open Go.Lib (decDigits)
mutual
theorem np_WTR : ∀ (e : PT) {G : TEnv} {T : Ty}, WTR G e.np T → WTR G e T
 | .num _ _, _, _, h => by cases h with | num h => exact .num h
 | .name _ _, _, _, h => by cases h with | name h => exact .name h
 | .node p k nm rg kids, G, T, h => by
  match kids with
  | [] => simp only [PT.np, npL] at h; cases h
  | [a] =>
   simp only [PT.np, npL] at h
   cases h with
   | fst h => exact .fst (np_WTR a h)
   | snd h => exact .snd (np_WTR a h)
   | new h hm => exact .new (np_WTR a h) hm
  | [a, b] =>
   simp only [PT.np, npL] at h
   cases h with
   | let_ h1 h2 => exact .let_ (np_WTR a h1) (np_WTR b h2)
   | pair hr h1 h2 => exact .pair hr (np_WTR a h1) (np_WTR b h2)
   | two hk h1 h2 => exact .two hk (np_WTR a h1) (np_WTR b h2)
  | [a, b, c] =>
   simp only [PT.np, npL] at h
   cases h with
   | if_ h1 h2 h3 => exact .if_ (np_WTR a h1) (np_WTR b h2) (np_WTR c h3)
   | loop h1 h2 h3 => exact .loop (np_WTR a h1) (np_WTR b h2) (np_WTR c h3)
  | _ :: _ :: _ :: _ :: _ => simp only [PT.np, npL] at h; cases h
end
mutual
theorem np_okY {b : Bool} : ∀ e : PT, e.np.ok b → e.ok b
 | .num _ _, h => h
 | .name _ _, h => h
 | .node _ k nm rg kids, h => by
  simp only [PT.np, PT.ok, npL_lenY] at h ⊢
  exact ⟨h.1, h.2.1, h.2.2.1, h.2.2.2.1, npL_okY kids h.2.2.2.2⟩
theorem npL_okY {b : Bool} : ∀ l : List PT, okL b (npL l) → okL b l
 | [], h => h
 | t :: r, h => by
  simp only [npL, okL] at h ⊢
  exact ⟨np_okY t h.1, npL_okY r h.2⟩
theorem npL_lenY : ∀ l : List PT, (npL l).length = l.length
 | [] => rfl
 | t :: r => by simp only [npL, List.length_cons, npL_lenY r]
end
mutual
theorem lay_evE (fuel : Nat) (regs news : List Int) : ∀ (e : PT) (b : Nat) (env : VEnv) (st : ESt), NoNew e → e.tame → ev fuel (e.lay0 regs news b).era env st = ev fuel e env st
 | .num p s, _, env, st, _, ht => by
  simp only [PT.tame] at ht
  simp only [PT.lay0, PT.era, ev]
  rw [value_dec, Int.toNat_of_nonneg ht.1]
 | .name _ _, _, _, _, _, _ => rfl
 | .node _ k nm rg kids, b, env, st, hn, ht => by
  cases hn with
  | node hk hn =>
  simp only [PT.tame] at ht
  simp only [PT.lay0, PT.era, if_neg hk, ev]
  congr 1
  funext st
  rw [lay_evLet fuel regs news nm kids b env st hn ht.2, lay_evIf fuel regs news kids b env st hn ht.2, lay_evLoop fuel regs news nm kids b env st hn ht.2, lay_evKids fuel regs news kids b env st hn ht.2]
theorem lay_evKids (fuel : Nat) (regs news : List Int) : ∀ (l : List PT) (b : Nat) (env : VEnv) (st : ESt), (∀ x ∈ l, NoNew x) → tameL l → evKids fuel (eraL (layL regs news l b)) env st = evKids fuel l env st
 | [], _, _, _, _, _ => rfl
 | t :: r, b, env, st, hn, ht => by
  simp only [tameL] at ht
  simp only [layL, eraL, wrapN_era, evKids, lay_evE fuel regs news t b env st (hn t (by simp)) ht.1]
  simp only [lay_evKids fuel regs news r (b + t.cnt) _ _ (fun x hx => hn x (by simp [hx])) ht.2]
theorem lay_evLet (fuel : Nat) (regs news : List Int) (nm : List UInt8) : ∀ (l : List PT) (b : Nat) (env : VEnv) (st : ESt), (∀ x ∈ l, NoNew x) → tameL l → evLet fuel nm (eraL (layL regs news l b)) env st = evLet fuel nm l env st
 | [], _, _, _, _, _ => rfl
 | [_], _, _, _, _, _ => rfl
 | [x, y], b, env, st, hn, ht => by
  simp only [tameL] at ht
  simp only [layL, eraL, wrapN_era, evLet]
  simp only [lay_evE fuel regs news x _ _ _ (hn x (by simp)) ht.1, lay_evE fuel regs news y _ _ _ (hn y (by simp)) ht.2.1]
 | _ :: _ :: _ :: _, _, _, _, _, _ => rfl
theorem lay_evIf (fuel : Nat) (regs news : List Int) : ∀ (l : List PT) (b : Nat) (env : VEnv) (st : ESt), (∀ x ∈ l, NoNew x) → tameL l → evIf fuel (eraL (layL regs news l b)) env st = evIf fuel l env st
 | [], _, _, _, _, _ => rfl
 | [_], _, _, _, _, _ => rfl
 | [_, _], _, _, _, _, _ => rfl
 | [x, y, z], b, env, st, hn, ht => by
  simp only [tameL] at ht
  simp only [layL, eraL, wrapN_era, evIf]
  simp only [lay_evE fuel regs news x _ _ _ (hn x (by simp)) ht.1, lay_evE fuel regs news y _ _ _ (hn y (by simp)) ht.2.1, lay_evE fuel regs news z _ _ _ (hn z (by simp)) ht.2.2.1]
 | _ :: _ :: _ :: _ :: _, _, _, _, _, _ => rfl
theorem lay_evLoop (fuel : Nat) (regs news : List Int) (nm : List UInt8) : ∀ (l : List PT) (b : Nat) (env : VEnv) (st : ESt), (∀ x ∈ l, NoNew x) → tameL l → evLoop fuel nm (eraL (layL regs news l b)) env st = evLoop fuel nm l env st
 | [], _, _, _, _, _ => rfl
 | [_], _, _, _, _, _ => rfl
 | [_, _], _, _, _, _, _ => rfl
 | [x, y, z], b, env, st, hn, ht => by
  simp only [tameL] at ht
  simp only [layL, eraL, wrapN_era, evLoop]
  simp only [lay_evE fuel regs news x _ _ _ (hn x (by simp)) ht.1, lay_evE fuel regs news y _ _ _ (hn y (by simp)) ht.2.1, lay_evE fuel regs news z _ _ _ (hn z (by simp)) ht.2.2.1]
 | _ :: _ :: _ :: _ :: _, _, _, _, _, _ => rfl
end
def cntR (news : List Int) (lo hi : Nat) : Nat := (news.filter (fun a => decide ((lo : Int) ≤ a) && decide (a < (hi : Int)))).length
theorem cntR_split (news : List Int) {a b c : Nat} (h1 : a ≤ b) (h2 : b ≤ c) : cntR news a c = cntR news a b + cntR news b c := by
 unfold cntR
 induction news with
 | nil => rfl
 | cons x r ih =>
  simp only [List.filter_cons]
  by_cases g1 : (a : Int) ≤ x
  ·by_cases g2 : x < (b : Int)
   ·have e1 : ¬ (b : Int) ≤ x := by omega
    have e2 : x < (c : Int) := by omega
    simp only [g1, g2, e1, e2, decide_true, decide_false, Bool.and_self, Bool.false_and, if_true, Bool.false_eq_true, if_false, List.length_cons]
    omega
   ·have e1 : (b : Int) ≤ x := by omega
    by_cases g3 : x < (c : Int)
    ·simp only [g1, g2, e1, g3, decide_true, decide_false, Bool.and_self, Bool.and_false, if_true, Bool.false_eq_true, if_false, List.length_cons]
     omega
    ·simp only [g1, g2, e1, g3, decide_true, decide_false, Bool.and_false, Bool.false_eq_true, if_false]
     exact ih
  ·have e1 : ¬ (b : Int) ≤ x := by omega
   simp only [g1, e1, decide_false, Bool.false_and, Bool.false_eq_true, if_false]
   exact ih
theorem cntR_one (news : List Int) (i : Nat) : cntR news i (i + 1) = clN news i := by
 unfold cntR clN
 congr 1
 apply List.filter_congr
 intro x _
 by_cases h : x = (i : Int)
 ·subst h; simp; omega
 ·have : (x == (i : Int)) = false := by rw [beq_eq_false_iff_ne]; exact h
  rw [this, Bool.and_eq_false_iff]
  by_cases g : (i : Int) ≤ x
  ·right; simp; omega
  ·left; simp; omega
theorem cntR_le (news : List Int) (lo hi : Nat) : cntR news lo hi ≤ news.length := List.length_filter_le _ _
theorem opT_cl (i : Int) : ∀ (l : List Int) (r : Nat), r + l.length ≤ 9999 → (opT l r i).length ≤ 11 * clN l i
 | [], _, _ => by simp [opT]
 | a :: l, r, h => by
  simp only [List.length_cons] at h
  have h1 := opT_cl i l (r + 1) (by omega)
  have h2 := opR_len r (by omega)
  unfold clN at h1 ⊢
  simp only [opT, List.length_append, List.filter_cons]
  by_cases e : a = i
  ·have : (a == i) = true := by simp [e]
   rw [if_pos e, this]
   simp only [if_true, List.length_cons]; omega
  ·have : (a == i) = false := by rw [beq_eq_false_iff_ne]; exact e
   rw [if_neg e, this]
   simp only [List.length_nil, Bool.false_eq_true, if_false]; omega
theorem joinT_more (k : Kw) (nm : List UInt8) : ∀ (l l' : List (List UInt8)) (i B : Nat), l.length = l'.length → (l.map List.length).sum ≤ (l'.map List.length).sum + B → (joinT k nm i l).length ≤ (joinT k nm i l').length + B
 | [], [], _, _, _, _ => by simp [joinT]
 | [], _ :: _, _, _, h, _ => by simp at h
 | _ :: _, [], _, _, h, _ => by simp at h
 | x :: r, y :: s, i, B, h, hb => by
  simp only [List.length_cons, Nat.add_right_cancel_iff] at h
  have key : ∀ (a b : List (List UInt8)) (j : Nat), a.length = b.length → (joinT k nm j a).length + (b.map List.length).sum = (joinT k nm j b).length + (a.map List.length).sum := by
   intro a
   induction a with
   | nil => intro b j hl; cases b with | nil => rfl | cons _ _ => simp at hl
   | cons u v ih =>
    intro b j hl
    cases b with
    | nil => simp at hl
    | cons w z =>
     have := ih z (j + 1) (by simpa using hl)
     simp only [joinT, List.map_cons, List.sum_cons, List.length_append, pieceT]
     simp only [List.length_cons] at *
     omega
  have := key (x :: r) (y :: s) i (by simp [h])
  omega
mutual
theorem ftx_more {regs news : List Int} (hr : ∀ i, rgV regs i ≤ 9999) (hn : news.length ≤ 150) {ns : List NR} (H : LyT regs ns) : ∀ (t : PT) (b : Nat), Shows ns t b → NoNew t → (t.ftx regs news b).length ≤ t.ptx.length + 6 * t.prs + 12 * cntR news b (b + t.cnt - 1)
 | .num _ _, _, _, _ => by simp only [PT.ftx, PT.ptx]; omega
 | .name _ _, _, _, _ => by simp only [PT.ftx, PT.ptx]; omega
 | .node p k nm rg kids, b, hs, hw => by
  cases hw with
  | node hk hw =>
  simp only [Shows] at hs
  obtain ⟨⟨n, hn1, hf, _⟩, hks⟩ := hs
  have h1 := wtxL_more hr hn H kids b hks hw
  have h2 : (rgT regs (b + cntL kids)).length ≤ 6 * (if k = .pair then 1 else 0) := by
   by_cases hp : k = .pair
   ·rw [if_pos hp]; exact rgT_len regs _ (hr _)
   ·have := (H _ _ hn1).2 (fun e => hp ((form4 k).1 (hf ▸ e)))
    unfold rgT
    rw [if_pos this]; simp
  have h3 := joinT_more k nm (wtxL regs news kids b) (ptxL kids) 0 _ (by rw [wtxL_length, ptxL_len]) h1
  simp only [PT.ftx, PT.ptx, if_neg hk, PT.prs, PT.cnt, List.length_cons, List.length_append, List.length_nil]
  rw [show b + (1 + cntL kids) - 1 = b + cntL kids by omega]
  omega
theorem wtxL_more {regs news : List Int} (hr : ∀ i, rgV regs i ≤ 9999) (hn : news.length ≤ 150) {ns : List NR} (H : LyT regs ns) : ∀ (ts : List PT) (b : Nat), ShowsL ns ts b → (∀ x ∈ ts, NoNew x) → ((wtxL regs news ts b).map List.length).sum ≤ ((ptxL ts).map List.length).sum + (6 * prsL ts + 12 * cntR news b (b + cntL ts))
 | [], b, _, _ => by simp [wtxL, ptxL]
 | t :: r, b, hs, hw => by
  simp only [ShowsL] at hs
  have h1 := ftx_more hr hn H t b hs.1 (hw t (by simp))
  have h2 := wtxL_more hr hn H r (b + t.cnt) hs.2 (fun x hx => hw x (by simp [hx]))
  have hc := cnt_pos' t
  have hidx : (((b + t.cnt : Nat) : Int) - 1) = ((b + t.cnt - 1 : Nat) : Int) := by omega
  have h3 := opT_cl ((b + t.cnt - 1 : Nat) : Int) news 0 (by omega)
  have h4 := cntR_one news (b + t.cnt - 1)
  rw [show b + t.cnt - 1 + 1 = b + t.cnt by omega] at h4
  have h5 := cntR_split news (a := b) (b := b + t.cnt - 1) (c := b + t.cnt) (by omega) (by omega)
  have h6 := cntR_split news (a := b) (b := b + t.cnt) (c := b + t.cnt + cntL r) (by omega) (by omega)
  simp only [wtxL, ptxL, List.map_cons, List.sum_cons, prsL, cntL, List.length_append, hidx, clT, List.length_replicate]
  rw [show b + (t.cnt + cntL r) = b + t.cnt + cntL r by omega]
  omega
end
theorem wtx_more {regs news : List Int} (hr : ∀ i, rgV regs i ≤ 9999) (hn : news.length ≤ 150) {ns : List NR} (H : LyT regs ns) (t : PT) (hs : Shows ns t 0) (hw : NoNew t) : (t.wtx regs news 0).length ≤ t.ptx.length + 6 * t.prs + 12 * news.length := by
 have h1 := wtxL_more hr hn H [t] 0 (by simp only [ShowsL, and_true]; exact hs) (by simpa using hw)
 have h2 := cntR_le news 0 (0 + cntL [t])
 simp only [wtxL, ptxL, List.map_cons, List.map_nil, List.sum_cons, List.sum_nil, prsL, Nat.add_zero] at h1
 unfold PT.wtx
 omega
theorem pt_ptx {rg : List UInt8} : ∀ {vs : List Nat} {x : KE} {t : Nat}, KT vs x t → (x.pt rg).ptx = (x.pt []).tidy := by
 intro vs x t h
 induction h with
 | num h => simp [KE.pt, PT.ptx, PT.tidy, value_dec]
 | var _ => simp [KE.pt, PT.ptx, PT.tidy]
 | let_ _ _ _ _ ha hb => simp [KE.pt, PT.ptx, ptxL, PT.tidy, tidyL, regT, ha, hb]
 | if_ _ _ _ ha hb hc => simp [KE.pt, PT.ptx, ptxL, PT.tidy, tidyL, regT, ha, hb, hc]
 | loop _ _ _ _ ha hb hc => simp [KE.pt, PT.ptx, ptxL, PT.tidy, tidyL, regT, ha, hb, hc]
 | pair _ _ _ _ ha hb => simp [KE.pt, PT.ptx, ptxL, PT.tidy, tidyL, regT, ha, hb]
 | fst _ _ _ ha => simp [KE.pt, PT.ptx, ptxL, PT.tidy, tidyL, regT, ha]
 | snd _ _ _ ha => simp [KE.pt, PT.ptx, ptxL, PT.tidy, tidyL, regT, ha]
 | two hk _ _ ha hb => rcases hk with rfl | rfl | rfl <;> simp [KE.pt, PT.ptx, ptxL, PT.tidy, tidyL, regT, ha, hb]
theorem laid_PE {x : KE} {t : Nat} (h : KT [] x t) (hpr : x.prs ≤ 75) (hlen : x.len ≤ 1308) {e : PT} {ns : List NR} {n0 : NR} (hnp : e.np = x.pt []) (hta : e.tame) (hnn : NoNew e) (hN : Nds e ns n0) (hL : Lay2 (layR e ns n0) (layN e ns n0) ns (layT e ns n0)) :
  ∃ e2 T', PE true (tokens (e.wtx (layR e ns n0) (layN e ns n0) 0)) e2 [] ∧ chkAns e2 = (0, 0) ∧ WT [] e2 (tyZ t) ∧ WTR [] e2 T' ∧ (∀ f, ev f e2.era [] ⟨0, 0, 0⟩ = ev f (x.pt []) [] ⟨0, 0, 0⟩) ∧ (e.wtx (layR e ns n0) (layN e ns n0) 0).length ≤ 9000 ∧ e2.np = e.lay (layR e ns n0) (layN e ns n0) 0 := by
 have hprs : e.prs ≤ 75 := by rw [← np_prs, hnp, pt_prs _ h]; exact hpr
 have hfl := layF_len (n0 := n0) hN.na
 have hnl : (layN e ns n0).length ≤ 75 := by unfold layN newsL; rw [List.length_map, List.length_range]; omega
 obtain ⟨hb1, hb2⟩ := layR_bd e ns n0 (by omega)
 have hwt : WT [] e (tyZ t) := np_WT e (by rw [hnp]; exact pt_WT h (by simp))
 have hok : e.ok false := np_okY e (by rw [hnp]; exact pt_ok (placed := false) rfl h)
 have hshow := hN.na.shows0
 have hok2 := lay_ok hL.pr (show (layN e ns n0).length ≤ 999 by omega) e 0 hshow hta hok
 obtain ⟨e2, hpe, he2⟩ := tidy_PE _ hok2
 rw [lay_np] at he2
 rw [lay_tidy _ _ e 0 hnn] at hpe
 have hwt2 : WT [] e2 (tyZ t) := np_WT e2 (by rw [he2]; exact lay_WT hwt hnn 0)
 obtain ⟨hwr, _⟩ := lay_wtr hL hwt hnn hta [] [] 0 [] ns [] hN.na (by simp) rfl (fun s U hs => by simp [look] at hs)
 refine ⟨e2, _, hpe, chk_ok hwt2 ?_, hwt2, np_WTR e2 (by rw [he2]; exact hwr), fun f => ?_, ?_, he2⟩
 ·rw [← np_prs, he2, lay_prs]; omega
 ·rw [← np_ev, np_era, he2]
  unfold PT.lay
  rw [wrapN_era, lay_evE f _ _ e 0 [] _ hnn hta, ← np_ev, hnp]
 ·have h1 := wtx_more hb1 (show (layN e ns n0).length ≤ 150 by omega) hL.pr e hshow hnn
  have h2 : e.ptx.length ≤ 1308 + 75 * 1 := by
   rw [← np_ptx, hnp, pt_ptx h]
   have := pt_len (rg := []) h
   simp at this; omega
  omega
end Go.Proofs.YtpicaknklgccoaaGreatDoor
namespace Go.Proofs.YtpicaknklgccoaaGreatDoor
open Go.RowKit
theorem ev_none (t : PT) (env : VEnv) : (ev 0 t env ⟨0, 0, 0⟩).2.e = 12 := by
 cases t <;> simp [ev, begun]
theorem fuel_facts (X : PT) (h0 : (ev 20000 X [] ⟨0, 0, 0⟩).2.e = 0) : ∃ S : Nat, (ev 20000 X [] ⟨0, 0, 0⟩).2.steps = S ∧ 1 ≤ S ∧ S ≤ 20000 ∧ ev S X [] ⟨0, 0, 0⟩ = ev 20000 X [] ⟨0, 0, 0⟩ ∧ (ev (S - 1) X [] ⟨0, 0, 0⟩).2.e = 12 := by
 have hm := (ev_mono 20000 X [] ⟨0, 0, 0⟩ (Nat.zero_le _)).1
 obtain ⟨S, hS⟩ : ∃ S, (ev 20000 X [] ⟨0, 0, 0⟩).2.steps = S := ⟨_, rfl⟩
 have heq := (ev_fu 20000 S X [] ⟨0, 0, 0⟩).eq h0 (by omega)
 have h1 : 1 ≤ S := by
  rcases Nat.eq_zero_or_pos S with e | e
  ·rw [e] at heq
   have := ev_none X []
   rw [heq, h0] at this; cases this
  ·exact e
 refine ⟨S, hS, h1, by omega, heq, ?_⟩
 rcases ev_e12 (S - 1) X [] ⟨0, 0, 0⟩ (Or.inl rfl) with h | h
 ·exfalso
  have hm2 := (ev_mono (S - 1) X [] ⟨0, 0, 0⟩ (Nat.zero_le _)).1
  have := (ev_fu (S - 1) 20000 X [] ⟨0, 0, 0⟩).eq h (by omega)
  rw [this] at hS
  omega
 ·exact h
def aggF (S : ByteArray) (a b c d : Int) : Value := .agg #[.string S, .int .i64 a, .int .i64 b, .int .i64 c, .int .i64 d]
set_option maxRecDepth 100000 in
set_option maxHeartbeats 4000000 in
theorem Fuelled_walk (t : Int) (ra : Option Addr) (rn rc : Nat) (w : World) (x : KE) (src P US : ByteArray) (Ua Ub Uc Ud : Int) (ends : Bool)
  (HBD : Hid (Calls Tryz.prog 21 #[.int .i64 t, .slice ra rn rc] w fun e w' => ∃ p, e = .returned (.pointer (some ⟨p, 0, none⟩)) ∧ Below w.heap.size w w' ∧ KIn w' x p))
  (HTX : Hid (∀ W' p, Below w.heap.size w W' → KIn W' x p → Calls Tryz.prog 22 #[.pointer (some ⟨p, 0, none⟩), .string ⟨#[]⟩] W' fun e w' => e = .returned (.string src) ∧ Below W'.heap.size W' w'))
  (HWK : Hid (∀ W p, Below w.heap.size w W → KIn W x p → Calls Tryz.prog 24 #[.pointer (some ⟨p, 0, none⟩), .int .i64 20000] W fun e w' => e = .returned (.tuple #[aggF US Ua Ub Uc Ud, .bool ends]) ∧ Below W.heap.size W w'))
  (HPL : Hid (∀ W, Below w.heap.size w W → Calls Tryz.prog 16 #[.string src] W fun e w' => e = .returned (.tuple #[.string P, .int .i64 0]) ∧ Below W.heap.size W w'))
  (HA : Hid ((ends = false ∧ ∃ V1 V2 : ByteArray × Int × Int × Int × Int, (∀ W, Below w.heap.size w W → Calls Tryz.prog 12 #[.string src, .int .i64 20000] W fun e w' => e = .returned (.tuple #[aggF V1.1 V1.2.1 V1.2.2.1 V1.2.2.2.1 V1.2.2.2.2, .int .i64 12]) ∧ Below W.heap.size W w') ∧
    (∀ W, Below w.heap.size w W → Calls Tryz.prog 18 #[.string P, .int .i64 20000] W fun e w' => e = .returned (.tuple #[aggF V2.1 V2.2.1 V2.2.2.1 V2.2.2.2.1 V2.2.2.2.2, .int .i64 12]) ∧ Below W.heap.size W w')) ∨
   (ends = true ∧ 1 ≤ Ua ∧ Ua ≤ 20000 ∧ ∃ V1 V2 : Int × Int × Int × Int, (∀ W, Below w.heap.size w W → Calls Tryz.prog 12 #[.string src, .int .i64 Ua] W fun e w' => e = .returned (.tuple #[aggF US V1.1 V1.2.1 V1.2.2.1 V1.2.2.2, .int .i64 0]) ∧ Below W.heap.size W w') ∧
    (∀ W, Below w.heap.size w W → Calls Tryz.prog 18 #[.string P, .int .i64 Ua] W fun e w' => e = .returned (.tuple #[aggF US V2.1 V2.2.1 V2.2.2.1 V2.2.2.2, .int .i64 0]) ∧ Below W.heap.size W w') ∧
    (∀ W, Below w.heap.size w W → Calls Tryz.prog 12 #[.string src, .int .i64 (Ua - 1)] W fun e w' => e = .returned (.tuple #[aggF ⟨#[]⟩ 0 0 0 0, .int .i64 12]) ∧ Below W.heap.size W w') ∧
    (∀ W, Below w.heap.size w W → Calls Tryz.prog 18 #[.string P, .int .i64 (Ua - 1)] W fun e w' => e = .returned (.tuple #[aggF ⟨#[]⟩ 0 0 0 0, .int .i64 12]) ∧ Below W.heap.size W w')))) :
  Calls Tryz.prog 11 #[.int .i64 t, .slice ra rn rc] w fun e w' => e = .returned (.bool true) ∧ Below w.heap.size w w' := by
 have HNO : Hid _ := fun W => knought_any W
 unfold aggF at HWK HA
 go_enter Tryz.func11, Tryz.ntmps11
 go_wp2_with fail
 refine Calls.mono HBD.out ?_
 rintro _ w1 ⟨p, rfl, hb1, hk1⟩
 have HB1 : Hid _ := hb1
 have HK1 : Hid _ := hk1
 clear hb1 hk1 HBD
 go_wp2_with fail
 refine Calls.mono (HTX.out w1 p HB1.out HK1.out) ?_
 rintro _ w2 ⟨rfl, hb2⟩
 have HB2 : Hid _ := HB1.out.trans (hb2.mono HB1.out.size)
 have HK2 : Hid _ := HK1.out.below hb2
 clear hb2 HB1 HK1 HTX
 go_wp2_with fail
 refine Calls.mono (HWK.out w2 p HB2.out HK2.out) ?_
 rintro _ w3 ⟨rfl, hb3⟩
 have hB3 := HB2.out.trans (hb3.mono HB2.out.size)
 have HB3 : Hid _ := hB3.alloc hB3.size (.cells #[.string US, .int .i64 Ua, .int .i64 Ub, .int .i64 Uc, .int .i64 Ud] 23 (0, 0))
 have HQ3 : Hid _ := blk_new w3 (.cells #[.string US, .int .i64 Ua, .int .i64 Ub, .int .i64 Uc, .int .i64 Ud] 23 (0, 0))
 clear hb3 hB3 HB2 HK2 HWK
 go_wp2_with fail
 refine Calls.mono (HPL.out _ HB3.out) ?_
 rintro _ w4 ⟨rfl, hb4⟩
 have HB4 : Hid _ := HB3.out.trans (hb4.mono HB3.out.size)
 have hq4 := (hb4.block _ (blk_lt HQ3.out)).trans HQ3.out
 obtain ⟨q0, q1, q2, q3, q4⟩ := res_cells hq4
 have ql := blk_lt hq4
 have HQ4 : Hid _ := hq4
 clear hb4 hq4 HB3 HQ3 HPL
 generalize w3.heap.size = Q at *
 rcases HA.out with ⟨rfl, ⟨v1, v2, v3, v4, v5⟩, ⟨u1, u2, u3, u4, u5⟩, hE, hR⟩ | ⟨rfl, h1, h2, ⟨v2, v3, v4, v5⟩, ⟨u2, u3, u4, u5⟩, hE1, hR1, hE2, hR2⟩
 ·simp only at hE hR
  have HE : Hid _ := hE
  have HR : Hid _ := hR
  clear hE hR HA HNO
  go_wp2_with fail
  refine Calls.mono (HE.out w4 HB4.out) ?_
  rintro _ w5 ⟨rfl, hb5⟩
  have hB5 := HB4.out.trans (hb5.mono HB4.out.size)
  have HB5 : Hid _ := hB5.alloc hB5.size (.cells #[.string v1, .int .i64 v2, .int .i64 v3, .int .i64 v4, .int .i64 v5] 23 (0, 0))
  clear hb5 hB5 HB4 HE HQ4 q0 q1 q2 q3 q4 ql
  go_wp2_with fail
  refine Calls.mono (HR.out _ HB5.out) ?_
  rintro _ w6 ⟨rfl, hb6⟩
  have hB6 := HB5.out.trans (hb6.mono HB5.out.size)
  have HB6 : Hid _ := hB6.alloc hB6.size (.cells #[.string u1, .int .i64 u2, .int .i64 u3, .int .i64 u4, .int .i64 u5] 23 (0, 0))
  clear hb6 hB6 HB5 HR
  go_wp2
  go_ret
  exact ⟨rfl, HB6.out⟩
 ·simp only at hE1 hR1
  have HE1 : Hid _ := hE1
  have HR1 : Hid _ := hR1
  have HE2 : Hid _ := hE2
  have HR2 : Hid _ := hR2
  have qS : (US.toList == US.toList) = true := by simp
  clear hE1 hR1 hE2 hR2 HA
  go_wp2_with fail
  refine Calls.mono (HE1.out w4 HB4.out) ?_
  rintro _ w5 ⟨rfl, hb5⟩
  have hB5 := HB4.out.trans (hb5.mono HB4.out.size)
  have hq5 := (hb5.block _ (blk_lt HQ4.out)).trans HQ4.out
  have hal : Below w5.heap.size w5 (w5.alloc (.cells #[.string US, .int .i64 v2, .int .i64 v3, .int .i64 v4, .int .i64 v5] 23 (0, 0))) := belY_al (Below.refl _ _) _
  have HB5 : Hid _ := hB5.alloc hB5.size (.cells #[.string US, .int .i64 v2, .int .i64 v3, .int .i64 v4, .int .i64 v5] 23 (0, 0))
  have HQ5 : Hid _ := (hal.block _ (blk_lt hq5)).trans hq5
  have HX5 : Hid _ := blk_new w5 (.cells #[.string US, .int .i64 v2, .int .i64 v3, .int .i64 v4, .int .i64 v5] 23 (0, 0))
  clear q0 q1 q2 q3 q4 ql
  obtain ⟨q0, q1, q2, q3, q4⟩ := res_cells hq5
  have ql := blk_lt hq5
  have qn := Nat.ne_of_lt ql
  clear hb5 hB5 hq5 hal HB4 HQ4 HE1
  go_wp2_with fail
  refine Calls.mono (HR1.out _ HB5.out) ?_
  rintro _ w6 ⟨rfl, hb6⟩
  have hB6 := HB5.out.trans (hb6.mono HB5.out.size)
  have hq6 := (hb6.block _ (blk_lt HQ5.out)).trans HQ5.out
  have hx6 := (hb6.block _ (blk_lt HX5.out)).trans HX5.out
  have hal : Below w6.heap.size w6 (w6.alloc (.cells #[.string US, .int .i64 u2, .int .i64 u3, .int .i64 u4, .int .i64 u5] 23 (0, 0))) := belY_al (Below.refl _ _) _
  have HB6 : Hid _ := hB6.alloc hB6.size (.cells #[.string US, .int .i64 u2, .int .i64 u3, .int .i64 u4, .int .i64 u5] 23 (0, 0))
  have HQ6 : Hid _ := (hal.block _ (blk_lt hq6)).trans hq6
  have HX6 : Hid _ := (hal.block _ (blk_lt hx6)).trans hx6
  have HY6 : Hid _ := blk_new w6 (.cells #[.string US, .int .i64 u2, .int .i64 u3, .int .i64 u4, .int .i64 u5] 23 (0, 0))
  clear q0 q1 q2 q3 q4 ql qn
  obtain ⟨q0, q1, q2, q3, q4⟩ := res_cells hq6
  have ql := blk_lt hq6
  have qn := Nat.ne_of_lt ql
  clear hb6 hB6 hq6 hx6 hal HB5 HQ5 HX5 HR1
  go_wp2_with fail
  refine Calls.mono (HE2.out _ HB6.out) ?_
  rintro _ w7 ⟨rfl, hb7⟩
  have hB7 := HB6.out.trans (hb7.mono HB6.out.size)
  have hq7 := (hb7.block _ (blk_lt HQ6.out)).trans HQ6.out
  have hx7 := (hb7.block _ (blk_lt HX6.out)).trans HX6.out
  have hy7 := (hb7.block _ (blk_lt HY6.out)).trans HY6.out
  have hal : Below w7.heap.size w7 (w7.alloc (.cells #[.string ⟨#[]⟩, .int .i64 0, .int .i64 0, .int .i64 0, .int .i64 0] 23 (0, 0))) := belY_al (Below.refl _ _) _
  have HB7 : Hid _ := hB7.alloc hB7.size (.cells #[.string ⟨#[]⟩, .int .i64 0, .int .i64 0, .int .i64 0, .int .i64 0] 23 (0, 0))
  have HQ7 : Hid _ := (hal.block _ (blk_lt hq7)).trans hq7
  have HX7 : Hid _ := (hal.block _ (blk_lt hx7)).trans hx7
  have HY7 : Hid _ := (hal.block _ (blk_lt hy7)).trans hy7
  have HC7 : Hid _ := blk_new w7 (.cells #[.string ⟨#[]⟩, .int .i64 0, .int .i64 0, .int .i64 0, .int .i64 0] 23 (0, 0))
  clear q0 q1 q2 q3 q4 ql qn
  obtain ⟨q0, q1, q2, q3, q4⟩ := res_cells hq7
  have ql := blk_lt hq7
  have qn := Nat.ne_of_lt ql
  clear hb7 hB7 hq7 hx7 hy7 hal HB6 HQ6 HX6 HY6 HE2
  go_wp2_with fail
  refine Calls.mono (HR2.out _ HB7.out) ?_
  rintro _ w8 ⟨rfl, hb8⟩
  have hB8 := HB7.out.trans (hb8.mono HB7.out.size)
  have hq8 := (hb8.block _ (blk_lt HQ7.out)).trans HQ7.out
  have hx8 := (hb8.block _ (blk_lt HX7.out)).trans HX7.out
  have hy8 := (hb8.block _ (blk_lt HY7.out)).trans HY7.out
  have hc8 := (hb8.block _ (blk_lt HC7.out)).trans HC7.out
  have hal : Below w8.heap.size w8 (w8.alloc (.cells #[.string ⟨#[]⟩, .int .i64 0, .int .i64 0, .int .i64 0, .int .i64 0] 23 (0, 0))) := belY_al (Below.refl _ _) _
  have HB8 : Hid _ := hB8.alloc hB8.size (.cells #[.string ⟨#[]⟩, .int .i64 0, .int .i64 0, .int .i64 0, .int .i64 0] 23 (0, 0))
  have HD8 : Hid _ := blk_new w8 (.cells #[.string ⟨#[]⟩, .int .i64 0, .int .i64 0, .int .i64 0, .int .i64 0] 23 (0, 0))
  clear q0 q1 q2 q3 q4 ql qn
  obtain ⟨q0, q1, q2, q3, q4⟩ := res_cells hq8
  obtain ⟨x0, x1, x2, x3, x4⟩ := res_cells hx8
  obtain ⟨y0, y1, y2, y3, y4⟩ := res_cells hy8
  obtain ⟨c0, c1, c2, c3, c4⟩ := res_cells hc8
  have ql := blk_lt hq8
  have qn := Nat.ne_of_lt ql
  have xl := blk_lt hx8
  have xn := Nat.ne_of_lt xl
  have yl := blk_lt hy8
  have yn := Nat.ne_of_lt yl
  have cl := blk_lt hc8
  have cn := Nat.ne_of_lt cl
  clear hb8 hB8 hq8 hx8 hy8 hc8 hal HB7 HQ7 HX7 HY7 HC7 HR2
  go_wp2_with fail
  refine Calls.mono (HNO.out _) ?_
  rintro _ w9 ⟨rfl, hb9⟩
  have HB9 : Hid _ := HB8.out.trans (hb9.mono HB8.out.size)
  have hd9 := (hb9.block _ (blk_lt HD8.out)).trans HD8.out
  obtain ⟨d0, d1, d2, d3, d4⟩ := res_cells hd9
  have dl := blk_lt hd9
  clear hb9 hd9 HB8 HD8 q0 q1 q2 q3 q4 ql qn x0 x1 x2 x3 x4 xl xn y0 y1 y2 y3 y4 yl yn c0 c1 c2 c3 c4 cl cn
  go_wp2_with fail
  refine Calls.mono (HNO.out _) ?_
  rintro _ w10 ⟨rfl, hb10⟩
  have HB10 : Hid _ := HB9.out.trans (hb10.mono HB9.out.size)
  clear hb10 HB9
  go_wp2
  go_ret
  exact ⟨rfl, HB10.out⟩
theorem placed_run {x : KE} {t : Nat} (h : KT [] x t) (hpr : x.prs ≤ 75) (hlen : x.len ≤ 1308) (src : ByteArray) (hsrc : src = bs (x.pt []).tidy) :
  ∃ P : ByteArray, (∀ w, Lib.TabIs Tryz.prog w "internal/strconv.uint64pow10" .u64 Lib.pow10Tab → Calls Tryz.prog 16 #[.string src] w fun v w' => v = .returned (.tuple #[.string P, .int .i64 (0 : Nat)]) ∧ Below w.heap.size w w') ∧
   ∀ f, f ≤ 20000 → ∃ (v : Value) (E : Nat), RunAns (ev f (x.pt []) [] ⟨0, 0, 0⟩) v E ∧ E ≠ 13 ∧ ∀ w, Lib.TabIs Tryz.prog w "internal/strconv.uint64pow10" .u64 Lib.pow10Tab → Calls Tryz.prog 18 #[.string P, .int .i64 f] w fun r w' => r = .returned (.tuple #[v, .int .i64 E]) ∧ Below w.heap.size w w' := by
 obtain ⟨e, hpe, hchk, hnp, hev⟩ := built_PE (placed := false) (rg := []) rfl h (by omega)
 have hplen := pt_len (rg := []) h
 have hsl : src.data.toList = (x.pt []).tidy := by rw [hsrc]; simp [bs]
 have hss : src.size ≤ 3000 := by rw [hsrc, bs_size]; simp at hplen; omega
 rw [← hsl] at hpe
 obtain ⟨ns, n0, hN, hL, hPl⟩ := leasePlace_ok src hss e hpe hchk
 have hta := (hpe.tame (tokens_tame _)).1
 obtain ⟨⟨_, hnn⟩, _⟩ := PE.plain hpe (tokens_tame _)
 obtain ⟨e2, T', hpe2, hchk2, hwt2, hwr, hev2, hl9, _⟩ := laid_PE h hpr hlen hnp hta hnn hN hL
 obtain ⟨TX, hTX⟩ : ∃ TX, TX = e.wtx (layR e ns n0) (layN e ns n0) 0 := ⟨_, rfl⟩
 rw [← hTX] at hPl hpe2 hl9
 refine ⟨bs TX, hPl, fun f hf => ?_⟩
 have hd : (bs TX).data.toList = TX := by simp [bs]
 obtain ⟨v, E, hans, h13, hRu⟩ := leaseRun_placed (bs TX) (by rw [bs_size]; exact hl9) e2 _ (by rw [hd]; exact hpe2) hchk2 hwt2 (by have := tyZ_size t; omega) f hf
 rw [hev2] at hans
 exact ⟨v, E, hans, h13 T' hwr, hRu⟩
theorem Fuelled_any (t : Int) (rv : Value) (raw : List Int) (w : World) (ht : I64 t) (h : RawIn w rv raw) (htab : Lib.TabIs Tryz.prog w "internal/strconv.uint64pow10" .u64 Lib.pow10Tab) :
  Calls Tryz.prog 11 #[.int .i64 t, rv] w fun v w' => v = .returned (.bool true) ∧ Below w.heap.size w w' := by
 obtain ⟨ra, rn, rc, rfl⟩ : ∃ ra rn rc, rv = .slice ra rn rc := by
  rcases h.2 with ⟨h1, _⟩ | ⟨a, cap, h1, _, _⟩
  ·exact ⟨_, _, _, h1⟩
  ·exact ⟨_, _, _, h1⟩
 have hbd := build_any w t (.slice ra rn rc) raw ht h
 obtain ⟨hKT, hlen, hprs, _⟩ := build_ok t raw
 generalize buildF t raw = x at *
 obtain ⟨e, hpe, hchk, hnp, hev⟩ := built_PE (placed := false) (rg := []) rfl hKT (by omega)
 have hplen := pt_len (rg := []) hKT
 have htx := ktext_any [] hKT (by simp)
 obtain ⟨src, hsrc⟩ : ∃ src, src = bs (x.pt []).tidy := ⟨_, rfl⟩
 have hsl : src.data.toList = (x.pt []).tidy := by rw [hsrc]; simp [bs]
 have hss : src.size ≤ 3000 := by rw [hsrc, bs_size]; simp at hplen; omega
 rw [← hsl] at hpe
 have hit : ∀ W, Below w.heap.size w W → ItoaOk W := fun W hW => by
  intro n W' hn hW'
  exact itoa_ok w htab n W' hn (hW.trans (hW'.mono hW.size))
 have hchk1 : (chkAns e).1 = 0 := by rw [hchk]
 obtain ⟨P, hPl, hRu⟩ := placed_run hKT hprs hlen src hsrc
 have hEv : ∀ f : Nat, f ≤ 20000 → ∀ W, Below w.heap.size w W → Calls Tryz.prog 12 #[.string src, .int .i64 f] W fun v w' => v = .returned (.tuple #[evalV (ev f (x.pt []) [] ⟨0, 0, 0⟩), .int .i64 (ev f (x.pt []) [] ⟨0, 0, 0⟩).2.e]) ∧ Below W.heap.size W w' := fun f hf W hW => by
  have := leaseEval_tree src W hss (Lib.tabBelow_of_tabIs htab W hW) e hpe hchk1 f hf
  rw [hev] at this; exact this
 obtain ⟨R, hR⟩ : ∃ R, R = ev 20000 (x.pt []) [] ⟨0, 0, 0⟩ := ⟨_, rfl⟩
 have hWk : ∀ W p, Below w.heap.size w W → KIn W x p → Calls Tryz.prog 24 #[.pointer (some ⟨p, 0, none⟩), .int .i64 (20000 : Nat)] W fun v w' => v = .returned (.tuple #[evalV R, .bool (decide (R.2.e = 0))]) ∧ Below W.heap.size W w' := fun W p hW hk =>
  worked_any W x _ p 20000 (by omega) hKT hk (fun W' hW' => hit W' (hW.trans (hW'.mono hW.size))) R hR
 have hTx : ∀ W p, Below w.heap.size w W → KIn W x p → Calls Tryz.prog 22 #[.pointer (some ⟨p, 0, none⟩), .string ⟨#[]⟩] W fun v w' => v = .returned (.string src) ∧ Below W.heap.size W w' := fun W p hW hk => by
  have := htx p W hk (by simp at hplen; omega) (fun W' hW' => hit W' (hW.trans (hW'.mono hW.size)))
  rw [← hsrc] at this; exact this
 have hPl2 := fun W (hW : Below w.heap.size w W) => hPl W (Lib.tabBelow_of_tabIs htab W hW)
 have htb := fun W (hW : Below w.heap.size w W) => Lib.tabBelow_of_tabIs htab W hW
 have h12 : R.2.e = 0 ∨ R.2.e = 12 := by rw [hR]; exact ev_e12 20000 (x.pt []) [] ⟨0, 0, 0⟩ (Or.inl rfl)
 rcases h12 with h0 | h12
 ·have hff := fuel_facts (x.pt []) (by rw [← hR]; exact h0)
  rw [← hR] at hff
  obtain ⟨S, hS, hS1, hS2, hev1, hev2⟩ := hff
  have hvR : evalV R = aggF (bs R.1.txt) S R.2.cells R.2.cells R.2.cells := by
   unfold evalV
   rw [if_neg (fun h => h h0), hS]; rfl
  have hz : ∀ f : Nat, (ev f (x.pt []) [] ⟨0, 0, 0⟩).2.e = 12 → evalV (ev f (x.pt []) [] ⟨0, 0, 0⟩) = aggF ⟨#[]⟩ 0 0 0 0 := fun f hf => by
   unfold evalV
   rw [if_pos (by rw [hf]; decide)]; rfl
  obtain ⟨v1, E1, ha1, hn1, hr1⟩ := hRu S hS2
  obtain ⟨v2, E2, ha2, hn2, hr2⟩ := hRu (S - 1) (by omega)
  have e1 := hEv S hS2
  have e2 := hEv (S - 1) (by omega)
  rw [hev1, hvR, h0] at e1
  rw [hz _ hev2, hev2] at e2
  rw [hev1] at ha1
  have hd : decide (R.2.e = 0) = true := by simp [h0]
  rw [hvR, hd] at hWk
  have hx1 : E1 = 0 ∧ ∃ c d : Int, v1 = aggF (bs R.1.txt) R.2.steps R.2.cells c d := by
   rcases ha1 with ⟨h, _⟩ | ⟨h, _, _⟩ | ⟨_, h, c, d, hv⟩
   ·exact absurd h hn1
   ·rw [h0] at h; cases h
   ·exact ⟨h, c, d, hv⟩
  have hx2 : E2 = 12 ∧ v2 = aggF ⟨#[]⟩ 0 0 0 0 := by
   rcases ha2 with ⟨h, _⟩ | ⟨_, h, hv⟩ | ⟨h, _, _⟩
   ·exact absurd h hn2
   ·exact ⟨h, hv⟩
   ·rw [hev2] at h; cases h
  obtain ⟨rfl, c, d, rfl⟩ := hx1
  obtain ⟨rfl, rfl⟩ := hx2
  have hcast : ((S - 1 : Nat) : Int) = (S : Int) - 1 := by omega
  rw [hcast] at e2 hr2
  exact Fuelled_walk t ra rn rc w x src P (bs R.1.txt) S R.2.cells R.2.cells R.2.cells true hbd hTx hWk hPl2 (Or.inr ⟨rfl, by omega, by omega, (_, _, _, _), (_, _, _, _), e1, fun W hW => hr1 W (htb W hW), e2, fun W hW => hr2 W (htb W hW)⟩)
 ·have hd : decide (R.2.e = 0) = false := by simp [h12]
  have hvR : evalV R = aggF ⟨#[]⟩ 0 0 0 0 := by
   unfold evalV
   rw [if_pos (by rw [h12]; decide)]; rfl
  obtain ⟨v1, E1, ha1, hn1, hr1⟩ := hRu 20000 (by omega)
  have e1 := hEv 20000 (by omega)
  rw [← hR] at ha1 e1
  rw [hvR, h12] at e1
  rw [hvR, hd] at hWk
  have hx1 : E1 = 12 ∧ v1 = aggF ⟨#[]⟩ 0 0 0 0 := by
   rcases ha1 with ⟨h, _⟩ | ⟨_, h, hv⟩ | ⟨h, _, _⟩
   ·exact absurd h hn1
   ·exact ⟨h, hv⟩
   ·rw [h12] at h; cases h
  obtain ⟨rfl, rfl⟩ := hx1
  exact Fuelled_walk t ra rn rc w x src P ⟨#[]⟩ 0 0 0 0 false hbd hTx hWk hPl2 (Or.inl ⟨rfl, (_, _, _, _, _), (_, _, _, _, _), e1, fun W hW => hr1 W (htb W hW)⟩)
end Go.Proofs.YtpicaknklgccoaaGreatDoor
