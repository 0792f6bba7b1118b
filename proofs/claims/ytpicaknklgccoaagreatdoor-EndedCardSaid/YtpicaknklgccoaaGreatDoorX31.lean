import Derived.Test.YtpicaknklgccoaaGreatDoorX30
import Derived.Test.YtpicaknklgccoaaGreatDoorX16
import Derived.Test.YtpicaknklgccoaaGreatDoorX25
import Derived.Test.YtpicaknklgccoaaGreatDoorX14
import Derived.Test.YtpicaknklgccoaaGreatDoorX12
import Derived.Test.YtpicaknklgccoaaGreatDoorX13
import Derived.Test.YtpicaknklgccoaaGreatDoorX2
import Derived.Deep.RegionHeld3
namespace Go.Proofs.YtpicaknklgccoaaGreatDoor
open Go.RowKit
mutual
theorem rgdO_of : ∀ t : PT, t.tame → t.rg3 → t.rgd
 | .num _ _, h, _ => by simp only [PT.tame] at h; simp only [PT.rgd]; exact h
 | .name _ _, _, _ => by simp [PT.rgd]
 | .node _ _ _ _ kids, h, h3 => by
  simp only [PT.tame] at h
  simp only [PT.rg3] at h3
  simp only [PT.rgd]
  exact ⟨by omega, rgdOL_of kids h.2 h3.2⟩
theorem rgdOL_of : ∀ ts : List PT, tameL ts → rg3L ts → rgdL ts
 | [], _, _ => by simp [rgdL]
 | t :: r, h, h3 => by
  simp only [tameL] at h
  simp only [rg3L] at h3
  simp only [rgdL]
  exact ⟨rgdO_of t h.1 h3.1, rgdOL_of r h.2 h3.2⟩
end
end Go.Proofs.YtpicaknklgccoaaGreatDoor
namespace Go.Proofs.YtpicaknklgccoaaGreatDoor
mutual
def PT.era : PT → PT
 | .num p s => .num p s
 | .name p s => .name p s
 | .node p k nm rg kids => if k = .new then (eraL kids).headD (.num 0 []) else .node p k nm rg (eraL kids)
def eraL : List PT → List PT
 | [] => []
 | t :: r => t.era :: eraL r
end
structure Sw (fuel : Nat) (st : ESt) (m : MM) : Prop where
 e : st.e = 0
 f : m.fault = 0
 s : m.steps = st.steps
 le : st.steps ≤ fuel
 c : m.cells.length = st.cells
 r : 0 < m.regs.length
def SimW (fuel : Nat) (y : Vl × ESt) (x : MV × MM) (T : Ty) : Prop := (Sw fuel y.2 x.2 ∧ Rep x.2.cells y.1 x.1 ∧ y.1.has T) ∨ Both y.2 x.2 ∨ x.2.fault = 13
theorem Sw.name {fuel : Nat} {st : ESt} {m : MM} (h : Sw fuel st m) (i : Int) (v : MV) : Sw fuel st (m.name i v) := by
 unfold MM.name; split
 ·exact ⟨h.e, h.f, h.s, h.le, h.c, h.r⟩
 ·exact h
theorem fin_fault (m : MM) : m.fin.fault = m.fault ∧ m.fin.steps = m.steps ∧ m.fin.cells = m.cells ∧ m.fin.named = m.named ∧ m.fin.regs.length = m.regs.length - 1 := by
 unfold MM.fin
 cases h : m.regs.getLast? with
 | none =>
  have : m.regs = [] := by simpa using h
  rw [this]; exact ⟨rfl, rfl, rfl, rfl, rfl⟩
 | some r => simp
theorem use_fk (m : MM) (v : MV) (h : m.fault ≠ 0) : (m.use v).2 = m := by
 unfold MM.use
 split
 ·rfl
 ·simp only; split
  ·rfl
  ·exact stop_keep m 13 h
theorem newCell_fault (m : MM) (k : Int) (v u : MV) : (m.newCell k v u).2.fault = m.fault := by unfold MM.newCell; split <;> rfl
theorem mW_fk (fuel : Nat) (t : PT) : ∀ (sc : Sc) (base : Nat) (m : MM), m.fault ≠ 0 → (mW fuel t sc base m).2.fault = m.fault := by
 induction t using PT.ind with
 | h1 p s => intro sc base m h; simp only [mW]; rw [begun_keep fuel m _ h]
 | h2 p s => intro sc base m h; simp only [mW]; rw [begun_keep fuel m _ h]
 | h3 p k nm rg kids ih =>
  intro sc base m h
  simp only [mW]
  split
  ·match kids, ih with
   | [], _ => rfl
   | [a], ih =>
    simp only [mNew]
    rw [(fin_fault _).1, ih a (by simp) sc base (m.opn (valueL rg)) h]; rfl
   | _ :: _ :: _, _ => rfl
  ·rw [begun_keep fuel m _ h]
theorem use_rl (m : MM) (v : MV) : (m.use v).2.regs = m.regs := by
 unfold MM.use MM.stop
 split
 ·rfl
 ·simp only; split
  ·rfl
  ·split <;> rfl
theorem newCell_rl (m : MM) (k : Int) (v u : MV) : (m.newCell k v u).2.regs.length = m.regs.length := by unfold MM.newCell; split <;> simp
theorem name_rl (m : MM) (i : Int) (v : MV) : (m.name i v).regs = m.regs := by unfold MM.name; split <;> rfl
theorem begun_rl (fuel : Nat) (m : MM) (g : MM → MV × MM) (h : ∀ m, (g m).2.regs.length = m.regs.length) : (mBegun fuel m g).2.regs.length = m.regs.length := by
 unfold mBegun
 have e : ∀ m : MM, (m.stop 12).regs = m.regs := fun m => by unfold MM.stop; split <;> rfl
 by_cases hq : fuel ≤ m.steps
 ·simp only [if_pos hq]
  split
  ·simp only [e]
  ·rw [h]; simp only [e]
 ·simp only [if_neg hq]
  split
  ·rfl
  ·rw [h]
theorem turns_rl (i : Int) (g : MM → MV × MM) (h : ∀ m, (g m).2.regs.length = m.regs.length) : ∀ (k : Nat) (v : MV) (m : MM), (mTurns i g k v m).2.regs.length = m.regs.length
 | 0, _, _ => rfl
 | k + 1, v, m => by
  simp only [mTurns]
  split
  ·rfl
  ·rw [turns_rl i g h k, h, name_rl]
theorem mW_rl (fuel : Nat) (t : PT) : ∀ (sc : Sc) (base : Nat) (m : MM), (mW fuel t sc base m).2.regs.length = m.regs.length := by
 induction t using PT.ind with
 | h1 p s => intro sc base m; simp only [mW]; exact begun_rl fuel m _ (fun _ => rfl)
 | h2 p s => intro sc base m; simp only [mW]; exact begun_rl fuel m _ (fun _ => rfl)
 | h3 p k nm rg kids ih =>
  intro sc base m
  simp only [mW]
  split
  ·match kids, ih with
   | [], _ => rfl
   | [a], ih =>
    simp only [mNew]
    rw [(fin_fault _).2.2.2.2, ih a (by simp) sc base (m.opn (valueL rg))]
    simp [MM.opn]
   | _ :: _ :: _, _ => rfl
  ·refine begun_rl fuel m _ (fun m => ?_)
   split
   ·match kids, ih with
    | [a, b], ih => simp only [mLet]; rw [ih b (by simp), name_rl, ih a (by simp)]
    | [], _ => rfl
    | [_], _ => rfl
    | _ :: _ :: _ :: _, _ => rfl
   ·split
    ·match kids, ih with
     | [a, b, c], ih =>
      simp only [mIf]
      split
      ·rw [ih b (by simp), ih a (by simp)]
      ·rw [ih c (by simp), ih a (by simp)]
     | [], _ => rfl
     | [_], _ => rfl
     | [_, _], _ => rfl
     | _ :: _ :: _ :: _ :: _, _ => rfl
    ·split
     ·match kids, ih with
      | [a, b, c], ih =>
       simp only [mLoop]
       rw [turns_rl _ _ (fun m => ih c (by simp) _ _ m), ih b (by simp), ih a (by simp)]
      | [], _ => rfl
      | [_], _ => rfl
      | [_, _], _ => rfl
      | _ :: _ :: _ :: _ :: _, _ => rfl
     ·match kids, ih with
      | [a], ih => simp only [mOps]; rw [use_rl, ih a (by simp)]
      | [a, b], ih =>
       simp only [mOps]
       split
       ·rw [newCell_rl, ih b (by simp), ih a (by simp)]
       ·rw [ih b (by simp), ih a (by simp)]
      | [], _ => rfl
      | _ :: _ :: _ :: _, _ => rfl
theorem use_w {fuel : Nat} {st : ESt} {m : MM} {a b : Vl} {v : MV} (hs : Sw fuel st m) (h : Rep m.cells (.p a b) v) : ((m.use v).2 = m ∧ Rep m.cells a (m.use v).1.a ∧ Rep m.cells b (m.use v).1.b) ∨ (m.use v).2.fault = 13 := by
 simp only [Rep] at h
 obtain ⟨hc, i, c, hv, hi, ha, hb⟩ := h
 have hil := (List.getElem?_eq_some_iff.1 hi).1
 have e2 : m.cells.getD v.n.toNat c0 = c := by rw [hv, Int.toNat_natCast, List.getD_eq_getElem?_getD, hi]; rfl
 unfold MM.use
 rw [if_neg (by rw [hc, hv]; simp; omega), e2]
 by_cases hlv : m.isLive c = true
 ·rw [if_pos hlv]; exact Or.inl ⟨rfl, ha, hb⟩
 ·rw [if_neg hlv]; right; unfold MM.stop; rw [if_pos hs.f]
theorem cell_w {fuel : Nat} {st : ESt} {m : MM} {a b : Vl} {v u : MV} {k : Int} (hs : Sw fuel st m) (ha : Rep m.cells a v) (hb : Rep m.cells b u) : Sw fuel { st with cells := st.cells + 1 } (m.newCell k v u).2 ∧ Rep (m.newCell k v u).2.cells (.p a b) (m.newCell k v u).1 := by
 have hhl : m.home k < m.regs.length := by
  have hle : ∀ (l : List MR) (k : Int) (i : Nat), homeF l k i ≤ i := by
   intro l k i
   induction i with
   | zero => exact Nat.le_refl _
   | succ i ih => simp only [homeF]; split <;> omega
  have := hle m.regs k (m.regs.length - 1)
  have := hs.r
  unfold MM.home; omega
 have hr : m.regs[m.home k]? = some m.regs[m.home k] := List.getElem?_eq_getElem hhl
 unfold MM.newCell
 rw [hr]
 refine ⟨⟨hs.e, hs.f, hs.s, hs.le, by simp [hs.c], by simp [hs.r]⟩, ?_⟩
 simp only [Rep]
 exact ⟨trivial, m.cells.length, ⟨v, u, m.home k, m.regs[m.home k].ser⟩, rfl, by simp, ha.mono, hb.mono⟩
theorem begun_simW {fuel : Nat} {st : ESt} {m : MM} {f : ESt → Vl × ESt} {g : MM → MV × MM} {T : Ty} (h : Sw fuel st m) (hk : Sw fuel { st with steps := st.steps + 1 } { m with steps := m.steps + 1 } → SimW fuel (f { st with steps := st.steps + 1 }) (g { m with steps := m.steps + 1 }) T) : SimW fuel (begun fuel st f) (mBegun fuel m g) T := by
 unfold begun mBegun
 have hs := h.s
 have hle := h.le
 rw [if_neg (fun hn => hn h.e)]
 by_cases hq : st.steps = fuel
 ·rw [if_pos hq]
  have hq' : fuel ≤ m.steps := by omega
  simp only [if_pos hq']
  have e : m.stop 12 = { m with fault := 12 } := by unfold MM.stop; rw [if_pos h.f]
  rw [e]
  exact Or.inr (Or.inl ⟨rfl, rfl⟩)
 ·rw [if_neg hq]
  have hq' : ¬ fuel ≤ m.steps := by omega
  simp only [if_neg hq']
  rw [if_neg (fun hn => hn h.f)]
  exact hk ⟨h.e, h.f, by simp only; omega, by simp only; omega, h.c, h.r⟩
theorem turns_simW {fuel : Nat} {T : Ty} {j : Nat} {f : Vl → ESt → Vl × ESt} {g : MM → MV × MM} {P : MM → Prop} (hstep : ∀ st m x v, P m → Sw fuel st m → Rep m.cells x v → x.has T → SimW fuel (f x st) (g (m.name (j : Int) v)) T ∧ P (g (m.name (j : Int) v)).2) : ∀ (k : Nat) (st : ESt) (m : MM) (x : Vl) (v : MV), P m → Sw fuel st m → Rep m.cells x v → x.has T → SimW fuel (turns f k x st) (mTurns (j : Int) g k v m) T
 | 0, st, m, x, v, _, hs, hr, ht => Or.inl ⟨hs, hr, ht⟩
 | k + 1, st, m, x, v, hP, hs, hr, ht => by
  simp only [turns, mTurns]
  rw [if_neg (fun hn => hn hs.e), if_neg (fun hn => hn hs.f)]
  obtain ⟨h1, h2⟩ := hstep st m x v hP hs hr ht
  rcases h1 with ⟨a, b, c⟩ | hB | hD
  ·exact turns_simW hstep k _ _ _ _ h2 a b c
  ·exact Or.inr (Or.inl ⟨by rw [turns_keep _ _ _ _ (by rw [hB.1]; decide)]; exact hB.1, by rw [mTurns_keep _ _ _ _ _ (by rw [hB.2]; decide)]; exact hB.2⟩)
  ·exact Or.inr (Or.inr (by rw [mTurns_keep _ _ _ _ _ (by rw [hD]; decide)]; exact hD))
theorem both_w {fuel : Nat} (t : PT) (t' : PT) (sc : Sc) (base : Nat) (env : VEnv) {st : ESt} {m : MM} (h : Both st m) : Both (ev fuel t env st).2 (mW fuel t' sc base m).2 :=
 ⟨by rw [ev_keep fuel t env st (by rw [h.1]; decide)]; exact h.1, by rw [mW_fk fuel t' sc base m (by rw [h.2]; decide)]; exact h.2⟩
theorem dead_w {fuel : Nat} (t' : PT) (sc : Sc) (base : Nat) {m : MM} (h : m.fault = 13) : (mW fuel t' sc base m).2.fault = 13 := by
 rw [mW_fk fuel t' sc base m (by rw [h]; decide)]; exact h
end Go.Proofs.YtpicaknklgccoaaGreatDoor
namespace Go.Proofs.YtpicaknklgccoaaGreatDoor
open Go.Lib (decDigits)
def wrapN : List Int → Nat → Int → PT → PT
 | [], _, _, t => t
 | a :: l, r, i, t => if a = i then .node 0 .new [] (35 :: decDigits r) [wrapN l (r + 1) i t] else wrapN l (r + 1) i t
def rgW (regs : List Int) (i : Nat) : List UInt8 := if rgV regs i = -1 then [] else 35 :: decDigits (rgV regs i).toNat
mutual
def PT.lay0 (regs news : List Int) : PT → Nat → PT
 | .num _ s, _ => .num 0 (decDigits (valueL s).toNat)
 | .name _ s, _ => .name 0 s
 | .node _ k nm _ kids, b => .node 0 k nm (rgW regs (b + cntL kids)) (layL regs news kids b)
def layL (regs news : List Int) : List PT → Nat → List PT
 | [], _ => []
 | t :: r, b => wrapN news 0 ((b + t.cnt : Nat) - 1 : Int) (PT.lay0 regs news t b) :: layL regs news r (b + t.cnt)
end
def PT.lay (regs news : List Int) (t : PT) (b : Nat) : PT := wrapN news 0 ((b + t.cnt : Nat) - 1 : Int) (t.lay0 regs news b)
theorem regT_rgW (regs : List Int) (i : Nat) : regT (rgW regs i) = rgT regs i := by
 unfold rgW rgT regT
 split
 ·rfl
 ·simp
theorem wrapN_tidy (i : Int) (t : PT) : ∀ (l : List Int) (r : Nat), (wrapN l r i t).tidy = opT l r i ++ (t.tidy ++ List.replicate (clN l i) 41)
 | [], r => by simp [wrapN, opT, clN]
 | a :: l, r => by
  have ih := wrapN_tidy i t l (r + 1)
  simp only [wrapN, opT]
  by_cases h : a = i
  ·have hc : clN (a :: l) i = clN l i + 1 := by unfold clN; simp [h]
   rw [if_pos h, if_pos h, hc]
   simp only [PT.tidy, tidyL, joinT, pieceT, ih, regT, Kw.bytes, opR]
   simp [List.replicate_succ', List.append_assoc]
  ·have hc : clN (a :: l) i = clN l i := by unfold clN; simp [h]
   rw [if_neg h, if_neg h, hc, ih]; rfl
mutual
theorem lay0_tidy (regs news : List Int) : ∀ (t : PT) (b : Nat), NoNew t → (t.lay0 regs news b).tidy = t.ftx regs news b
 | .num _ _, _, _ => rfl
 | .name _ _, _, _ => rfl
 | .node _ k nm _ kids, b, h => by
  cases h with
  | node hk h =>
   simp only [PT.lay0, PT.tidy, PT.ftx, if_neg hk, regT_rgW, layL_tidy regs news kids b h]
theorem layL_tidy (regs news : List Int) : ∀ (ts : List PT) (b : Nat), (∀ x ∈ ts, NoNew x) → tidyL (layL regs news ts b) = wtxL regs news ts b
 | [], _, _ => rfl
 | t :: r, b, h => by
  simp only [layL, tidyL, wtxL, wrapN_tidy, lay0_tidy regs news t b (h t (by simp)), layL_tidy regs news r (b + t.cnt) (fun x hx => h x (by simp [hx])), clT]
end
theorem lay_tidy (regs news : List Int) (t : PT) (b : Nat) (h : NoNew t) : (t.lay regs news b).tidy = t.wtx regs news b := by
 unfold PT.lay PT.wtx
 rw [wrapN_tidy, lay0_tidy regs news t b h]; rfl
def LyT (regs : List Int) (ns : List NR) : Prop := ∀ (i : Nat) (n : NR), ns[i]? = some n → (n.form = 4 → 0 ≤ rgV regs i ∧ rgV regs i ≤ 999) ∧ (n.form ≠ 4 → rgV regs i = -1)
theorem form4 (k : Kw) : formK k = 4 ↔ k = .pair := by cases k <;> decide
theorem wrapN_np (i : Int) (t : PT) : ∀ (l : List Int) (r : Nat), (wrapN l r i t).np = wrapN l r i t.np
 | [], _ => rfl
 | a :: l, r => by
  simp only [wrapN]
  split
  ·simp only [PT.np, npL, wrapN_np i t l (r + 1)]
  ·exact wrapN_np i t l (r + 1)
mutual
theorem lay0_np (regs news : List Int) : ∀ (t : PT) (b : Nat), (t.lay0 regs news b).np = t.lay0 regs news b
 | .num _ _, _ => rfl
 | .name _ _, _ => rfl
 | .node _ k nm _ kids, b => by simp only [PT.lay0, PT.np, layL_np regs news kids b]
theorem layL_np (regs news : List Int) : ∀ (ts : List PT) (b : Nat), npL (layL regs news ts b) = layL regs news ts b
 | [], _ => rfl
 | t :: r, b => by simp only [layL, npL, wrapN_np, lay0_np regs news t b, layL_np regs news r]
end
theorem lay_np (regs news : List Int) (t : PT) (b : Nat) : (t.lay regs news b).np = t.lay regs news b := by unfold PT.lay; rw [wrapN_np, lay0_np]
theorem wrapN_ok (i : Int) (t : PT) (h : t.ok true) : ∀ (l : List Int) (r : Nat), r + l.length ≤ 999 → (wrapN l r i t).ok true
 | [], _, _ => h
 | a :: l, r, hr => by
  simp only [List.length_cons] at hr
  have ih := wrapN_ok i t h l (r + 1) (by omega)
  simp only [wrapN]
  split
  ·simp only [PT.ok, okL]
   refine ⟨by simp [wantsK], rfl, by simp, ?_, ih, trivial⟩
   rw [if_pos ⟨trivial, Or.inr trivial⟩]
   exact ⟨decDigits r, rfl, dec_good r 3 (dec_len3 r (by omega))⟩
  ·exact ih
theorem layL_len (regs news : List Int) : ∀ (ts : List PT) (b : Nat), (layL regs news ts b).length = ts.length
 | [], _ => rfl
 | t :: r, b => by simp [layL, layL_len regs news r]
mutual
theorem lay0_ok {regs news : List Int} {ns : List NR} (H : LyT regs ns) (hn : news.length ≤ 999) : ∀ (t : PT) (b : Nat), Shows ns t b → t.tame → t.ok false → (t.lay0 regs news b).ok true
 | .num _ s, _, _, ht, h => by
  simp only [PT.tame] at ht
  simp only [PT.lay0, PT.ok]
  exact dec_good _ 4 (dec_len4 _ (by omega))
 | .name _ s, _, _, _, h => by simpa [PT.lay0, PT.ok] using h
 | .node _ k nm rg kids, b, hs, ht, h => by
  simp only [PT.tame] at ht
  simp only [Shows] at hs
  obtain ⟨⟨n, hn1, hf, _⟩, hks⟩ := hs
  simp only [PT.ok] at h
  obtain ⟨h1, h2, h3, h4, h5⟩ := h
  have hH := H _ _ hn1
  have hf4 := form4 k
  rw [← hf] at hf4
  have hkn : k ≠ .new := fun e => by rw [e] at h1; simp [wantsK] at h1
  simp only [PT.lay0, PT.ok]
  refine ⟨by cases k <;> simp [wantsK] at h1 ⊢, by rw [layL_len]; exact h2, h3, ?_, layL_ok H hn kids b hks ht.2 h5⟩
  by_cases hp : k = .pair
  ·have := hH.1 (hf4.2 hp)
   rw [if_pos ⟨trivial, Or.inl hp⟩]
   unfold rgW
   rw [if_neg (by omega)]
   exact ⟨_, rfl, dec_good _ 3 (dec_len3 _ (by omega))⟩
  ·rw [if_neg (by simp [hp, hkn])]
   unfold rgW
   rw [if_pos (hH.2 (fun e => hp (hf4.1 e)))]
theorem layL_ok {regs news : List Int} {ns : List NR} (H : LyT regs ns) (hn : news.length ≤ 999) : ∀ (ts : List PT) (b : Nat), ShowsL ns ts b → tameL ts → okL false ts → okL true (layL regs news ts b)
 | [], _, _, _, _ => by simp [layL, okL]
 | t :: r, b, hs, ht, h => by
  simp only [ShowsL] at hs
  simp only [tameL] at ht
  simp only [okL] at h
  simp only [layL, okL]
  exact ⟨wrapN_ok _ _ (lay0_ok H hn t b hs.1 ht.1 h.1) news 0 (by omega), layL_ok H hn r _ hs.2 ht.2 h.2⟩
end
theorem lay_ok {regs news : List Int} {ns : List NR} (H : LyT regs ns) (hn : news.length ≤ 999) (t : PT) (b : Nat) (hs : Shows ns t b) (ht : t.tame) (h : t.ok false) : (t.lay regs news b).ok true := wrapN_ok _ _ (lay0_ok H hn t b hs ht h) news 0 (by omega)
theorem wrapN_era (i : Int) (t : PT) : ∀ (l : List Int) (r : Nat), (wrapN l r i t).era = t.era
 | [], _ => rfl
 | a :: l, r => by
  simp only [wrapN]
  split
  ·simp only [PT.era, if_true, eraL, List.headD_cons, wrapN_era i t l (r + 1)]
  ·exact wrapN_era i t l (r + 1)
theorem wrapN_prs (i : Int) (t : PT) : ∀ (l : List Int) (r : Nat), (wrapN l r i t).prs = t.prs
 | [], _ => rfl
 | a :: l, r => by
  simp only [wrapN]
  split
  ·simp [PT.prs, prsL, wrapN_prs i t l (r + 1)]
  ·exact wrapN_prs i t l (r + 1)
mutual
theorem lay0_prs (regs news : List Int) : ∀ (t : PT) (b : Nat), (t.lay0 regs news b).prs = t.prs
 | .num _ _, _ => rfl
 | .name _ _, _ => rfl
 | .node _ k nm _ kids, b => by simp only [PT.lay0, PT.prs, layL_prs regs news kids b]
theorem layL_prs (regs news : List Int) : ∀ (ts : List PT) (b : Nat), prsL (layL regs news ts b) = prsL ts
 | [], _ => rfl
 | t :: r, b => by simp only [layL, prsL, wrapN_prs, lay0_prs regs news t b, layL_prs regs news r]
end
theorem lay_prs (regs news : List Int) (t : PT) (b : Nat) : (t.lay regs news b).prs = t.prs := by unfold PT.lay; rw [wrapN_prs, lay0_prs]
theorem wrapN_WT {G : TEnv} {t : PT} {T : Ty} (i : Int) (h : WT G t T) : ∀ (l : List Int) (r : Nat), WT G (wrapN l r i t) T
 | [], _ => h
 | a :: l, r => by
  simp only [wrapN]
  split
  ·exact .new (wrapN_WT i h l (r + 1))
  ·exact wrapN_WT i h l (r + 1)
theorem lay_WT {regs news : List Int} {G : TEnv} {t : PT} {T : Ty} (h : WT G t T) : NoNew t → ∀ b, WT G (t.lay regs news b) T := by
 induction h with
 | num => intro _ b; exact wrapN_WT _ .num _ _
 | name hs => intro _ b; exact wrapN_WT _ (.name hs) _ _
 | let_ _ _ iha ihb =>
  intro hn b
  cases hn with
  | node hk hn => exact wrapN_WT _ (.let_ (iha (hn _ (by simp)) _) (ihb (hn _ (by simp)) _)) _ _
 | pair _ _ hs iha ihb =>
  intro hn b
  cases hn with
  | node hk hn => exact wrapN_WT _ (.pair (iha (hn _ (by simp)) _) (ihb (hn _ (by simp)) _) hs) _ _
 | fst _ iha =>
  intro hn b
  cases hn with
  | node hk hn => exact wrapN_WT _ (.fst (iha (hn _ (by simp)) _)) _ _
 | snd _ iha =>
  intro hn b
  cases hn with
  | node hk hn => exact wrapN_WT _ (.snd (iha (hn _ (by simp)) _)) _ _
 | if_ _ _ _ iha ihb ihc =>
  intro hn b
  cases hn with
  | node hk hn => exact wrapN_WT _ (.if_ (iha (hn _ (by simp)) _) (ihb (hn _ (by simp)) _) (ihc (hn _ (by simp)) _)) _ _
 | two hk _ _ iha ihb =>
  intro hn b
  cases hn with
  | node _ hn => exact wrapN_WT _ (.two hk (iha (hn _ (by simp)) _) (ihb (hn _ (by simp)) _)) _ _
 | loop _ _ _ iha ihb ihc =>
  intro hn b
  cases hn with
  | node hk hn => exact wrapN_WT _ (.loop (iha (hn _ (by simp)) _) (ihb (hn _ (by simp)) _) (ihc (hn _ (by simp)) _)) _ _
 | new _ _ =>
  intro hn b
  cases hn with
  | node hk hn => exact absurd rfl hk
end Go.Proofs.YtpicaknklgccoaaGreatDoor
namespace Go.Proofs.YtpicaknklgccoaaGreatDoor
set_option maxHeartbeats 2000000 in
theorem mW_evW (fuel : Nat) {G : TEnv} {t : PT} {T : Ty} (h : WT G t T) : ∀ (sc : Sc) (base : Nat) (m : MM) (env : VEnv) (st : ESt), t.rgd → ER m.named m.cells sc env G base → base + t.cnt ≤ m.named.length → Sw fuel st m → SimW fuel (ev fuel t.era env st) (mW fuel t sc base m) T := by
 induction h with
 | num =>
  intro sc base m env st hr he hl hs
  simp only [PT.rgd] at hr
  simp only [PT.era, ev, mW]
  exact begun_simW hs (fun hs => Or.inl ⟨hs, by simp only [Rep, true_and]; omega, by simp only [Vl.has]; omega⟩)
 | name hlk =>
  intro sc base m env st hr he hl hs
  simp only [PT.era, ev, mW]
  refine begun_simW hs (fun hs => Or.inl ⟨hs, ?_⟩)
  obtain ⟨i, v, h1, h2, h3, h4, h5⟩ := he _ _ hlk
  have hil := (List.getElem?_eq_some_iff.1 h3).1
  unfold MM.look
  simp only [h1]
  rw [if_neg (by omega), Int.toNat_natCast, List.getD_eq_getElem?_getD, h3]
  exact ⟨h4, h5⟩
 | @let_ G p nm rg a b A B ha hb iha ihb =>
  intro sc base m env st hr he hl hs
  simp only [PT.rgd, rgdL] at hr
  simp only [PT.cnt, cntL, Nat.add_zero] at hl
  simp only [PT.era, eraL, ev, evLet, mW, mLet, if_true, reduceCtorEq, if_false]
  refine begun_simW hs (fun hs => ?_)
  have hf := mW_fits fuel ha sc base { m with steps := m.steps + 1 } hr.2.1 he.ef (by simp only; omega)
  have h1 := iha sc base { m with steps := m.steps + 1 } env { st with steps := st.steps + 1 } hr.2.1 he (by simp only; omega) hs
  generalize mW fuel a sc base { m with steps := m.steps + 1 } = x at hf h1 ⊢
  generalize ev fuel a.era env { st with steps := st.steps + 1 } = y at h1 ⊢
  have hca := cnt_pos' a
  have hxl : x.2.named.length = m.named.length := hf.1.len
  rw [show (((base + a.cnt : Nat) : Int) - 1) = ((base + a.cnt - 1 : Nat) : Int) from by omega]
  rcases h1 with ⟨h1, h2, h3⟩ | hB | hD
  ·have hx := ER.on (m := { m with steps := m.steps + 1 }) he hf.1 (Nat.le_refl _)
   have hsn := hx.snoc (nm := nm) (j := base + a.cnt - 1) (by omega) (by omega) h2 h3
   rw [show base + a.cnt - 1 + 1 = base + a.cnt from by omega] at hsn
   have hne := name_ext x.2 (base + a.cnt - 1) x.1 base a.cnt (by omega)
   exact ihb _ (base + a.cnt) _ _ _ hr.2.2.1 hsn (by rw [hne.len, hxl]; omega) (h1.name _ _)
  ·exact Or.inr (Or.inl (both_w _ _ _ _ _ (hB.name _ _)))
  ·exact Or.inr (Or.inr (dead_w _ _ _ (by rw [(name_fault _ _ _).1]; exact hD)))
 | @pair G p nm rg a b A B ha hb hsz iha ihb =>
  intro sc base m env st hr he hl hs
  simp only [PT.rgd, rgdL] at hr
  simp only [PT.cnt, cntL, Nat.add_zero] at hl
  have e' : ev fuel (PT.node p .pair nm rg [a, b]).era env st = begun fuel st (fun st => if (ev fuel b.era env (ev fuel a.era env st).2).2.e ≠ 0 then (.n 0, (ev fuel b.era env (ev fuel a.era env st).2).2) else madeV .pair [(ev fuel a.era env st).1, (ev fuel b.era env (ev fuel a.era env st).2).1] (ev fuel b.era env (ev fuel a.era env st).2).2) := by
   simp only [PT.era, eraL, ev, evKids, reduceCtorEq, if_false]; rfl
  rw [e']
  simp only [mW, mOps, if_true, reduceCtorEq, if_false]
  refine begun_simW hs (fun hs => ?_)
  have hf := mW_fits fuel ha sc base { m with steps := m.steps + 1 } hr.2.1 he.ef (by simp only; omega)
  have h1 := iha sc base { m with steps := m.steps + 1 } env { st with steps := st.steps + 1 } hr.2.1 he (by simp only; omega) hs
  generalize mW fuel a sc base { m with steps := m.steps + 1 } = x at hf h1 ⊢
  generalize ev fuel a.era env { st with steps := st.steps + 1 } = y at h1 ⊢
  have hxl : x.2.named.length = m.named.length := hf.1.len
  rcases h1 with ⟨h1, h2, h3⟩ | hB | hD
  ·have hx := (ER.on (m := { m with steps := m.steps + 1 }) he hf.1 (Nat.le_refl _)).up (show base ≤ base + a.cnt by omega)
   have hg := mW_fits fuel hb sc (base + a.cnt) x.2 hr.2.2.1 hx.ef (by omega)
   have k1 := ihb sc (base + a.cnt) x.2 env y.2 hr.2.2.1 hx (by omega) h1
   generalize mW fuel b sc (base + a.cnt) x.2 = x' at hg k1 ⊢
   generalize ev fuel b.era env y.2 = y' at k1 ⊢
   rcases k1 with ⟨k1, k2, k3⟩ | hB | hD
   ·rw [if_neg (fun hn => hn k1.e)]
    simp only [madeV]
    have hc := cell_w (k := valueL rg) k1 (h2.on hg.1) k2
    exact Or.inl ⟨hc.1, hc.2, by simp only [Vl.has]; exact ⟨h3, k3⟩⟩
   ·rw [if_pos (by rw [hB.1]; decide)]
    exact Or.inr (Or.inl ⟨hB.1, by rw [newCell_fault]; exact hB.2⟩)
   ·exact Or.inr (Or.inr (by rw [newCell_fault]; exact hD))
  ·have hB2 := both_w (fuel := fuel) b.era b sc (base + a.cnt) env hB
   rw [if_pos (by rw [hB2.1]; decide)]
   exact Or.inr (Or.inl ⟨hB2.1, by rw [newCell_fault]; exact hB2.2⟩)
  ·exact Or.inr (Or.inr (by rw [newCell_fault]; exact dead_w _ _ _ hD))
 | @fst G p nm rg a A B ha iha =>
  intro sc base m env st hr he hl hs
  simp only [PT.rgd, rgdL] at hr
  simp only [PT.cnt, cntL, Nat.add_zero] at hl
  have e' : ev fuel (PT.node p .fst nm rg [a]).era env st = begun fuel st (fun st => if (ev fuel a.era env st).2.e ≠ 0 then (.n 0, (ev fuel a.era env st).2) else madeV .fst [(ev fuel a.era env st).1] (ev fuel a.era env st).2) := by
   simp only [PT.era, eraL, ev, evKids, reduceCtorEq, if_false]; rfl
  rw [e']
  simp only [mW, mOps, if_true, reduceCtorEq, if_false]
  refine begun_simW hs (fun hs => ?_)
  have h1 := iha sc base { m with steps := m.steps + 1 } env { st with steps := st.steps + 1 } hr.2.1 he (by simp only; omega) hs
  generalize mW fuel a sc base { m with steps := m.steps + 1 } = x at h1 ⊢
  generalize ev fuel a.era env { st with steps := st.steps + 1 } = y at h1 ⊢
  rcases h1 with ⟨h1, h2, h3⟩ | hB | hD
  ·rw [if_neg (fun hn => hn h1.e)]
   obtain ⟨y1, y2⟩ := y
   cases y1 with
   | n k => simp [Vl.has] at h3
   | p u v =>
    simp only [Vl.has] at h3
    have hu := use_w h1 h2
    simp only [madeV, Vl.fst]
    rcases hu with hu | hu
    ·rw [hu.1]
     exact Or.inl ⟨h1, hu.2.1, h3.1⟩
    ·exact Or.inr (Or.inr hu)
  ·rw [if_pos (by rw [hB.1]; decide)]
   exact Or.inr (Or.inl ⟨hB.1, by rw [use_fk _ _ (by rw [hB.2]; decide)]; exact hB.2⟩)
  ·exact Or.inr (Or.inr (by rw [use_fk _ _ (by rw [hD]; decide)]; exact hD))
 | @snd G p nm rg a A B ha iha =>
  intro sc base m env st hr he hl hs
  simp only [PT.rgd, rgdL] at hr
  simp only [PT.cnt, cntL, Nat.add_zero] at hl
  have e' : ev fuel (PT.node p .snd nm rg [a]).era env st = begun fuel st (fun st => if (ev fuel a.era env st).2.e ≠ 0 then (.n 0, (ev fuel a.era env st).2) else madeV .snd [(ev fuel a.era env st).1] (ev fuel a.era env st).2) := by
   simp only [PT.era, eraL, ev, evKids, reduceCtorEq, if_false]; rfl
  rw [e']
  simp only [mW, mOps, reduceCtorEq, if_false]
  refine begun_simW hs (fun hs => ?_)
  have h1 := iha sc base { m with steps := m.steps + 1 } env { st with steps := st.steps + 1 } hr.2.1 he (by simp only; omega) hs
  generalize mW fuel a sc base { m with steps := m.steps + 1 } = x at h1 ⊢
  generalize ev fuel a.era env { st with steps := st.steps + 1 } = y at h1 ⊢
  rcases h1 with ⟨h1, h2, h3⟩ | hB | hD
  ·rw [if_neg (fun hn => hn h1.e)]
   obtain ⟨y1, y2⟩ := y
   cases y1 with
   | n k => simp [Vl.has] at h3
   | p u v =>
    simp only [Vl.has] at h3
    have hu := use_w h1 h2
    simp only [madeV, Vl.snd]
    rcases hu with hu | hu
    ·rw [hu.1]
     exact Or.inl ⟨h1, hu.2.2, h3.2⟩
    ·exact Or.inr (Or.inr hu)
  ·rw [if_pos (by rw [hB.1]; decide)]
   exact Or.inr (Or.inl ⟨hB.1, by rw [use_fk _ _ (by rw [hB.2]; decide)]; exact hB.2⟩)
  ·exact Or.inr (Or.inr (by rw [use_fk _ _ (by rw [hD]; decide)]; exact hD))
 | @if_ G p nm rg a b c T ha hb hc iha ihb ihc =>
  intro sc base m env st hr he hl hs
  simp only [PT.rgd, rgdL] at hr
  simp only [PT.cnt, cntL, Nat.add_zero] at hl
  simp only [PT.era, eraL, ev, evIf, mW, mIf, if_true, reduceCtorEq, if_false]
  refine begun_simW hs (fun hs => ?_)
  have hf := mW_fits fuel ha sc base { m with steps := m.steps + 1 } hr.2.1 he.ef (by simp only; omega)
  have h1 := iha sc base { m with steps := m.steps + 1 } env { st with steps := st.steps + 1 } hr.2.1 he (by simp only; omega) hs
  generalize mW fuel a sc base { m with steps := m.steps + 1 } = x at hf h1 ⊢
  generalize ev fuel a.era env { st with steps := st.steps + 1 } = y at h1 ⊢
  have hxl : x.2.named.length = m.named.length := hf.1.len
  rcases h1 with ⟨h1, h2, h3⟩ | hB | hD
  ·have hx := ER.on (m := { m with steps := m.steps + 1 }) he hf.1 (Nat.le_refl _)
   obtain ⟨y1, y2⟩ := y
   cases y1 with
   | p u v => simp [Vl.has] at h3
   | n k =>
    simp only [Rep] at h2
    split
    ·rename_i hz
     simp only [Vl.num] at hz
     rw [if_pos (show x.1.n ≠ 0 by omega)]
     exact ihb sc (base + a.cnt) x.2 env _ hr.2.2.1 (hx.up (by omega)) (by omega) h1
    ·rename_i hz
     simp only [Vl.num, ne_eq, Decidable.not_not] at hz
     rw [if_neg (show ¬ x.1.n ≠ 0 by omega)]
     exact ihc sc (base + a.cnt + b.cnt) x.2 env _ hr.2.2.2.1 (hx.up (by omega)) (by omega) h1
  ·refine Or.inr (Or.inl ?_)
   constructor
   ·split
    ·exact (both_w b.era b sc 0 env hB).1
    ·exact (both_w c.era c sc 0 env hB).1
   ·split
    ·exact (both_w b.era b sc (base + a.cnt) env hB).2
    ·exact (both_w c.era c sc (base + a.cnt + b.cnt) env hB).2
  ·refine Or.inr (Or.inr ?_)
   split
   ·exact dead_w _ _ _ hD
   ·exact dead_w _ _ _ hD
 | @two G p k nm rg a b hkk ha hb iha ihb =>
  intro sc base m env st hr he hl hs
  simp only [PT.rgd, rgdL] at hr
  simp only [PT.cnt, cntL, Nat.add_zero] at hl
  have e : mW fuel (.node p k nm rg [a, b]) sc base m = mBegun fuel m (fun m => (⟨false, mArith k (mW fuel a sc base m).1.n (mW fuel b sc (base + a.cnt) (mW fuel a sc base m).2).1.n⟩, (mW fuel b sc (base + a.cnt) (mW fuel a sc base m).2).2)) := by
   rcases hkk with rfl | rfl | rfl <;> simp only [mW, mOps, reduceCtorEq, if_false]
  have e' : ev fuel (PT.node p k nm rg [a, b]).era env st = begun fuel st (fun st => if (ev fuel b.era env (ev fuel a.era env st).2).2.e ≠ 0 then (.n 0, (ev fuel b.era env (ev fuel a.era env st).2).2) else madeV k [(ev fuel a.era env st).1, (ev fuel b.era env (ev fuel a.era env st).2).1] (ev fuel b.era env (ev fuel a.era env st).2).2) := by
   rcases hkk with rfl | rfl | rfl <;> (simp only [PT.era, eraL, ev, evKids, reduceCtorEq, if_false]; rfl)
  rw [e, e']
  refine begun_simW hs (fun hs => ?_)
  have hf := mW_fits fuel ha sc base { m with steps := m.steps + 1 } hr.2.1 he.ef (by simp only; omega)
  have h1 := iha sc base { m with steps := m.steps + 1 } env { st with steps := st.steps + 1 } hr.2.1 he (by simp only; omega) hs
  generalize mW fuel a sc base { m with steps := m.steps + 1 } = x at hf h1 ⊢
  generalize ev fuel a.era env { st with steps := st.steps + 1 } = y at h1 ⊢
  have hxl : x.2.named.length = m.named.length := hf.1.len
  rcases h1 with ⟨h1, h2, h3⟩ | hB | hD
  ·have hx := (ER.on (m := { m with steps := m.steps + 1 }) he hf.1 (Nat.le_refl _)).up (show base ≤ base + a.cnt by omega)
   have k1 := ihb sc (base + a.cnt) x.2 env y.2 hr.2.2.1 hx (by omega) h1
   generalize mW fuel b sc (base + a.cnt) x.2 = x' at k1 ⊢
   generalize ev fuel b.era env y.2 = y' at k1 ⊢
   rcases k1 with ⟨k1, k2, k3⟩ | hB | hD
   ·rw [if_neg (fun hn => hn k1.e)]
    obtain ⟨y1, y2⟩ := y
    obtain ⟨z1, z2⟩ := y'
    cases y1 with
    | p u v => simp [Vl.has] at h3
    | n i =>
     cases z1 with
     | p u v => simp [Vl.has] at k3
     | n j =>
      simp only [Rep] at h2 k2
      refine Or.inl ?_
      rcases hkk with rfl | rfl | rfl
      ·simp only [madeV, Vl.num, mArith, if_true]
       refine ⟨k1, ?_, by simp only [Vl.has]; omega⟩
       simp only [Rep, true_and]
       rw [Int.tmod_eq_emod_of_nonneg (by omega)]
       omega
      ·simp only [madeV, Vl.num, mArith, if_true, reduceCtorEq, if_false]
       refine ⟨k1, ?_, by simp only [Vl.has]; omega⟩
       simp only [Rep, true_and]
       rw [Int.tmod_eq_emod_of_nonneg (by omega)]
       omega
      ·simp only [madeV, mArith, reduceCtorEq, if_false]
       by_cases hlt : i < j
       ·have hq : x.1.n < x'.1.n := by omega
        exact ⟨k1, by simp [Rep, Vl.num, hlt, hq], by simp [Vl.has, Vl.num, hlt]⟩
       ·have hq : ¬ x.1.n < x'.1.n := by omega
        exact ⟨k1, by simp [Rep, Vl.num, hlt, hq], by simp [Vl.has, Vl.num, hlt]⟩
   ·rw [if_pos (by rw [hB.1]; decide)]
    exact Or.inr (Or.inl hB)
   ·exact Or.inr (Or.inr hD)
  ·have hB2 := both_w (fuel := fuel) b.era b sc (base + a.cnt) env hB
   rw [if_pos (by rw [hB2.1]; decide)]
   exact Or.inr (Or.inl hB2)
  ·exact Or.inr (Or.inr (dead_w _ _ _ hD))
 | @loop G p nm rg a b c T ha hb hc iha ihb ihc =>
  intro sc base m env st hr he hl hs
  simp only [PT.rgd, rgdL] at hr
  simp only [PT.cnt, cntL, Nat.add_zero] at hl
  simp only [PT.era, eraL, ev, evLoop, mW, mLoop, if_true, reduceCtorEq, if_false]
  refine begun_simW hs (fun hs => ?_)
  have hf := mW_fits fuel ha sc base { m with steps := m.steps + 1 } hr.2.1 he.ef (by simp only; omega)
  have h1 := iha sc base { m with steps := m.steps + 1 } env { st with steps := st.steps + 1 } hr.2.1 he (by simp only; omega) hs
  generalize mW fuel a sc base { m with steps := m.steps + 1 } = x at hf h1 ⊢
  generalize ev fuel a.era env { st with steps := st.steps + 1 } = y at h1 ⊢
  have hxl : x.2.named.length = m.named.length := hf.1.len
  rcases h1 with ⟨h1, h2, h3⟩ | hB | hD
  ·have hx := ER.on (m := { m with steps := m.steps + 1 }) he hf.1 (Nat.le_refl _)
   have hg := mW_fits fuel hb sc (base + a.cnt) x.2 hr.2.2.1 (hx.up (by omega)).ef (by omega)
   have k1 := ihb sc (base + a.cnt) x.2 env y.2 hr.2.2.1 (hx.up (by omega)) (by omega) h1
   generalize mW fuel b sc (base + a.cnt) x.2 = x' at hg k1 ⊢
   generalize ev fuel b.era env y.2 = y' at k1 ⊢
   have hxl' : x'.2.named.length = m.named.length := hg.1.len.trans hxl
   have hcb := cnt_pos' b
   rw [show (((base + a.cnt + b.cnt : Nat) : Int) - 1) = ((base + a.cnt + b.cnt - 1 : Nat) : Int) from by omega]
   rcases k1 with ⟨k1, k2, k3⟩ | hB | hD
   ·have hnum : x.1.n.toNat = y.1.num := by
     obtain ⟨y1, y2⟩ := y
     cases y1 with
     | p u v => simp [Vl.has] at h3
     | n k => simp only [Rep] at h2; simp only [Vl.num]; omega
    rw [hnum]
    refine turns_simW (P := fun m' => ER m'.named m'.cells sc env G base ∧ m'.named.length = m.named.length) (fun st' m' v u hP hs' hr' ht' => ?_) _ _ _ _ _ ⟨hx.on hg.1 (by omega), hxl'⟩ k1 k2 k3
    have hsn := ER.snoc (nm := nm) (j := base + a.cnt + b.cnt - 1) (ER.up hP.1 (show base ≤ base + a.cnt + b.cnt - 1 by omega)) (Nat.le_refl _) (by omega) hr' ht'
    rw [show base + a.cnt + b.cnt - 1 + 1 = base + a.cnt + b.cnt from by omega] at hsn
    have hne := name_ext m' (base + a.cnt + b.cnt - 1) u (base + a.cnt + b.cnt - 1) 1 (by omega)
    have hg' := mW_fits fuel hc _ (base + a.cnt + b.cnt) _ hr.2.2.2.1 hsn.ef (by rw [hne.len]; omega)
    refine ⟨ihc _ (base + a.cnt + b.cnt) _ _ _ hr.2.2.2.1 hsn (by rw [hne.len]; omega) (hs'.name _ _), ER.on (hP.1.on hne (by omega)) hg'.1 (by omega), hg'.1.len.trans (hne.len.trans hP.2)⟩
   ·exact Or.inr (Or.inl ⟨by rw [turns_keep _ _ _ _ (by rw [hB.1]; decide)]; exact hB.1, by rw [mTurns_keep _ _ _ _ _ (by rw [hB.2]; decide)]; exact hB.2⟩)
   ·exact Or.inr (Or.inr (by rw [mTurns_keep _ _ _ _ _ (by rw [hD]; decide)]; exact hD))
  ·have hB2 := both_w (fuel := fuel) b.era b sc (base + a.cnt) env hB
   exact Or.inr (Or.inl ⟨by rw [turns_keep _ _ _ _ (by rw [hB2.1]; decide)]; exact hB2.1, by rw [mTurns_keep _ _ _ _ _ (by rw [hB2.2]; decide)]; exact hB2.2⟩)
  ·have hD2 := dead_w (fuel := fuel) b sc (base + a.cnt) hD
   exact Or.inr (Or.inr (by rw [mTurns_keep _ _ _ _ _ (by rw [hD2]; decide)]; exact hD2))
 | @new G p nm rg a T ha iha =>
  intro sc base m env st hr he hl hs
  simp only [PT.rgd, rgdL] at hr
  simp only [PT.cnt, cntL, Nat.add_zero] at hl
  simp only [PT.era, eraL, if_true, List.headD_cons, mW, mNew]
  have h1 := iha sc base (m.opn (valueL rg)) env st hr.2.1 he (by simp only [MM.opn]; omega) ⟨hs.e, hs.f, hs.s, hs.le, hs.c, by simp [MM.opn]⟩
  have hrl := mW_rl fuel a sc base (m.opn (valueL rg))
  generalize mW fuel a sc base (m.opn (valueL rg)) = x at h1 hrl ⊢
  obtain ⟨f1, f2, f3, f4, f5⟩ := fin_fault x.2
  have hr0 := hs.r
  rcases h1 with ⟨h1, h2, h3⟩ | hB | hD
  ·refine Or.inl ⟨⟨h1.e, by rw [f1]; exact h1.f, by rw [f2]; exact h1.s, h1.le, by rw [f3]; exact h1.c, ?_⟩, by rw [f3]; exact h2, h3⟩
   rw [f5, hrl]; simp only [MM.opn, List.length_append, List.length_singleton]; omega
  ·exact Or.inr (Or.inl ⟨hB.1, by rw [f1]; exact hB.2⟩)
  ·exact Or.inr (Or.inr (by rw [f1]; exact hD))
inductive WTR : TEnv → PT → Ty → Prop
 | num {G : TEnv} {p : Nat} {s : List UInt8} (h : 0 ≤ valueL s ∧ valueL s ≤ 9999) : WTR G (.num p s) .n
 | name {G : TEnv} {p : Nat} {s : List UInt8} {T : Ty} (h : look G s = some T) : WTR G (.name p s) T
 | let_ {G : TEnv} {p : Nat} {nm rg : List UInt8} {a b : PT} {A B : Ty} (ha : WTR G a A) (hb : WTR (G ++ [(nm, A)]) b B) : WTR G (.node p .let_ nm rg [a, b]) B
 | pair {G : TEnv} {p : Nat} {nm rg : List UInt8} {a b : PT} {A B : Ty} {r : Nat} (hr : valueL rg = (r : Int)) (ha : WTR G a A) (hb : WTR G b B) : WTR G (.node p .pair nm rg [a, b]) (.p r A B)
 | fst {G : TEnv} {p : Nat} {nm rg : List UInt8} {a : PT} {r : Nat} {A B : Ty} (ha : WTR G a (.p r A B)) : WTR G (.node p .fst nm rg [a]) A
 | snd {G : TEnv} {p : Nat} {nm rg : List UInt8} {a : PT} {r : Nat} {A B : Ty} (ha : WTR G a (.p r A B)) : WTR G (.node p .snd nm rg [a]) B
 | if_ {G : TEnv} {p : Nat} {nm rg : List UInt8} {a b c : PT} {T : Ty} (ha : WTR G a .n) (hb : WTR G b T) (hc : WTR G c T) : WTR G (.node p .if_ nm rg [a, b, c]) T
 | two {G : TEnv} {p : Nat} {k : Kw} {nm rg : List UInt8} {a b : PT} (hk : k = .add ∨ k = .sub ∨ k = .less) (ha : WTR G a .n) (hb : WTR G b .n) : WTR G (.node p k nm rg [a, b]) .n
 | loop {G : TEnv} {p : Nat} {nm rg : List UInt8} {a b c : PT} {T : Ty} (ha : WTR G a .n) (hb : WTR G b T) (hc : WTR (G ++ [(nm, T)]) c T) : WTR G (.node p .loop nm rg [a, b, c]) T
 | new {G : TEnv} {p : Nat} {nm rg : List UInt8} {a : PT} {T : Ty} (ha : WTR G a T) (hm : T.has (valueL rg) = false) : WTR G (.node p .new nm rg [a]) T
def LiveR (m : MM) : Ty → MV → Prop
 | .n, v => v.c = false ∧ 0 ≤ v.n ∧ v.n ≤ 9999
 | .p r A B, v => v.c = true ∧ ∃ (i : Nat) (c : MC) (g : MR), v.n = i ∧ m.cells[i]? = some c ∧ m.regs[c.home]? = some g ∧ g.ser = c.ser ∧ (g.num = (r : Int) ∨ c.home = 0) ∧ LiveR m A c.a ∧ LiveR m B c.b
def rkey (r : MR) : Int × Nat := (r.num, r.ser)
def SameR (m m' : MM) : Prop := m'.regs.map rkey = m.regs.map rkey
theorem SameR.refl (m : MM) : SameR m m := rfl
theorem SameR.trans {a b c : MM} (h : SameR a b) (g : SameR b c) : SameR a c := Eq.trans g h
theorem SameR.of {m m' : MM} (h : m'.regs = m.regs) : SameR m m' := by unfold SameR; rw [h]
theorem SameR.at {m m' : MM} (h : SameR m m') {i : Nat} {g : MR} (hi : m.regs[i]? = some g) : ∃ g', m'.regs[i]? = some g' ∧ g'.num = g.num ∧ g'.ser = g.ser := by
 have e := congrArg (fun l => l[i]?) h
 simp only [List.getElem?_map, hi, Option.map_some] at e
 cases h' : m'.regs[i]? with
 | none => rw [h'] at e; simp at e
 | some g' =>
  rw [h'] at e
  simp only [Option.map_some, Option.some.injEq, rkey, Prod.mk.injEq] at e
  exact ⟨g', rfl, e.1, e.2⟩
theorem SameR.len {m m' : MM} (h : SameR m m') : m'.regs.length = m.regs.length := by have := congrArg List.length h; simpa using this
theorem LiveR.on {m m' : MM} (hc : ∃ l, m'.cells = m.cells ++ l) (hs : SameR m m') : ∀ {T : Ty} {v : MV}, LiveR m T v → LiveR m' T v
 | .n, _, h => h
 | .p r A B, v, h => by
  simp only [LiveR] at h ⊢
  obtain ⟨h0, i, c, g, h1, h2, h3, h4, h5, h6, h7⟩ := h
  obtain ⟨g', k1, k2, k3⟩ := hs.at h3
  obtain ⟨l, hl⟩ := hc
  refine ⟨h0, i, c, g', h1, ?_, k1, k3.trans h4, ?_, LiveR.on ⟨l, hl⟩ hs h6, LiveR.on ⟨l, hl⟩ hs h7⟩
  ·rw [hl, List.getElem?_append_left (List.getElem?_eq_some_iff.1 h2).1]; exact h2
  ·rw [k2]; exact h5
theorem has_pO {r : Nat} {A B : Ty} {k : Int} (h : (Ty.p r A B).has k = false) : (r : Int) ≠ k ∧ A.has k = false ∧ B.has k = false := by
 unfold Ty.has at h ⊢
 simp only [Ty.rgl, List.any_cons, List.any_append, Bool.or_eq_false_iff, beq_eq_false_iff_ne] at h
 exact ⟨h.1, h.2.1, h.2.2⟩
theorem LiveR.fin {m x : MM} {k : Int} (hm : 0 < m.regs.length) (hs : SameR (m.opn k) x) : ∀ {T : Ty} {v : MV}, T.has k = false → LiveR x T v → LiveR x.fin T v
 | .n, _, _, h => h
 | .p r A B, v, ht, h => by
  obtain ⟨hr, hA, hB⟩ := has_pO ht
  simp only [LiveR] at h ⊢
  obtain ⟨h0, i, c, g, h1, h2, h3, h4, h5, h6, h7⟩ := h
  have hl : x.regs.length = m.regs.length + 1 := by rw [hs.len]; simp [MM.opn]
  have hlt := (List.getElem?_eq_some_iff.1 h3).1
  have hne : c.home ≠ m.regs.length := by
   intro e
   rcases h5 with h5 | h5
   ·obtain ⟨g', k1, k2, _⟩ := hs.at (i := m.regs.length) (g := ⟨k, m.opened, 0⟩) (by simp [MM.opn])
    rw [e, k1] at h3
    cases h3
    exact hr (h5.symm.trans k2)
   ·omega
  have hfr : x.fin.regs = x.regs.dropLast ∧ x.fin.cells = x.cells := by
   unfold MM.fin
   cases hg : x.regs.getLast? with
   | none => have : x.regs = [] := by simpa using hg
             rw [this] at hl; simp at hl
   | some _ => exact ⟨rfl, rfl⟩
  refine ⟨h0, i, c, g, h1, by rw [hfr.2]; exact h2, ?_, h4, h5, LiveR.fin hm hs hA h6, LiveR.fin hm hs hB h7⟩
  rw [hfr.1, List.getElem?_dropLast, if_pos (by omega)]; exact h3
theorem SameR.new {m x : MM} {k : Int} (hs : SameR (m.opn k) x) : SameR m x.fin := by
 have hl : x.regs.length = m.regs.length + 1 := by rw [hs.len]; simp [MM.opn]
 have hfr : x.fin.regs = x.regs.dropLast := by
  unfold MM.fin
  cases hg : x.regs.getLast? with
  | none => have : x.regs = [] := by simpa using hg
            rw [this] at hl; simp at hl
  | some _ => rfl
 unfold SameR at hs ⊢
 rw [hfr, List.map_dropLast, hs]
 simp [MM.opn]
structure LvO (m : MM) (x : MV × MM) (base c : Nat) (T : Ty) : Prop where
 ext : Ext m x.2 base c
 same : SameR m x.2
 ok : x.2.fault = 12 ∨ (x.2.fault = 0 ∧ LiveR x.2 T x.1)
theorem mW_fkx (fuel : Nat) (t : PT) : ∀ (sc : Sc) (base : Nat) (m : MM), m.fault ≠ 0 → Ext m (mW fuel t sc base m).2 base t.cnt ∧ SameR m (mW fuel t sc base m).2 := by
 induction t using PT.ind with
 | h1 p s => intro sc base m h; simp only [mW]; rw [begun_keep fuel m _ h]; exact ⟨Ext.refl _ _ _, SameR.refl _⟩
 | h2 p s => intro sc base m h; simp only [mW]; rw [begun_keep fuel m _ h]; exact ⟨Ext.refl _ _ _, SameR.refl _⟩
 | h3 p k nm rg kids ih =>
  intro sc base m h
  simp only [mW]
  split
  ·match kids, ih with
   | [], _ => exact ⟨Ext.refl _ _ _, SameR.refl _⟩
   | [a], ih =>
    simp only [mNew, PT.cnt, cntL]
    obtain ⟨h1, h2⟩ := ih a (by simp) sc base (m.opn (valueL rg)) h
    have h0 : Ext m (m.opn (valueL rg)) base (1 + (a.cnt + 0)) := Ext.same (m := m) (m' := m.opn (valueL rg)) rfl rfl _ _
    have h3 := Ext.trans (b := base) (c := 1 + (a.cnt + 0)) h0 h1 (by omega) (by omega)
    exact ⟨Ext.trans (b := base) (c := 1 + (a.cnt + 0)) h3 (fin_ext _ base (1 + (a.cnt + 0))) (by omega) (by omega), h2.new⟩
   | _ :: _ :: _, _ => exact ⟨Ext.refl _ _ _, SameR.refl _⟩
  ·rw [begun_keep fuel m _ h]; exact ⟨Ext.refl _ _ _, SameR.refl _⟩
theorem LvO.bad {fuel : Nat} (t : PT) (sc : Sc) (base : Nat) {m : MM} (h : m.fault = 12) (T : Ty) : LvO m (mW fuel t sc base m) base t.cnt T := by
 obtain ⟨h1, h2⟩ := mW_fkx fuel t sc base m (by rw [h]; decide)
 exact ⟨h1, h2, Or.inl (by rw [mW_fk fuel t sc base m (by rw [h]; decide)]; exact h)⟩
def EnvL' (m : MM) (sc : Sc) (G : TEnv) (base : Nat) : Prop := ∀ s U, look G s = some U → ∃ (i : Nat) (v : MV), findS sc s = (i : Int) ∧ i < base ∧ m.named[i]? = some v ∧ LiveR m U v
theorem EnvL'.on {m m' : MM} {sc : Sc} {G : TEnv} {base b c : Nat} (h : EnvL' m sc G base) (he : Ext m m' b c) (hs : SameR m m') (hb : base ≤ b) : EnvL' m' sc G base := by
 intro s U hl
 obtain ⟨i, v, h1, h2, h3, h4⟩ := h s U hl
 exact ⟨i, v, h1, h2, (he.named i (Or.inl (by omega))).trans h3, h4.on he.cells hs⟩
theorem EnvL'.up {m : MM} {sc : Sc} {G : TEnv} {base b : Nat} (h : EnvL' m sc G base) (hb : base ≤ b) : EnvL' m sc G b := by
 intro s U hl
 obtain ⟨i, v, h1, h2, h3, h4⟩ := h s U hl
 exact ⟨i, v, h1, by omega, h3, h4⟩
theorem EnvL'.snoc {m : MM} {sc : Sc} {G : TEnv} {base j : Nat} {nm : List UInt8} {T : Ty} {v : MV} (h : EnvL' m sc G base) (hj : base ≤ j) (hl : j < m.named.length) (hv : LiveR m T v) : EnvL' (m.name (j : Int) v) (sc ++ [(nm, (j : Int))]) (G ++ [(nm, T)]) (j + 1) := by
 have he := name_ext m j v j 1 (by omega)
 have hsm : SameR m (m.name (j : Int) v) := SameR.of (name_rl m j v)
 intro s T' hlk
 rw [look_snocF] at hlk
 rw [findS_snocO]
 by_cases hs : nm = s
 ·rw [if_pos hs] at hlk ⊢
  cases hlk
  exact ⟨j, v, rfl, by omega, name_at m j v hl, hv.on he.cells hsm⟩
 ·rw [if_neg hs] at hlk ⊢
  obtain ⟨i, u, h1, h2, h3, h4⟩ := h s T' hlk
  exact ⟨i, u, h1, by omega, (he.named i (Or.inl (by omega))).trans h3, h4.on he.cells hsm⟩
theorem begun_lv {fuel : Nat} {m : MM} {g : MM → MV × MM} {base c : Nat} {T : Ty} (h : m.fault = 0) (hk : LvO { m with steps := m.steps + 1 } (g { m with steps := m.steps + 1 }) base c T) : LvO m (mBegun fuel m g) base c T := by
 unfold mBegun
 by_cases hq : fuel ≤ m.steps
 ·simp only [if_pos hq]
  have e : m.stop 12 = { m with fault := 12 } := by unfold MM.stop; rw [if_pos h]
  rw [e, if_pos (by simp)]
  exact ⟨Ext.same (m := m) (m' := { m with fault := 12 }) rfl rfl _ _, SameR.of rfl, Or.inl rfl⟩
 ·simp only [if_neg hq]
  rw [if_neg (fun hn => hn h)]
  have h0 : Ext m { m with steps := m.steps + 1 } base c := Ext.same (m := m) (m' := { m with steps := m.steps + 1 }) rfl rfl _ _
  exact ⟨h0.trans hk.ext (by omega) (by omega), (SameR.of (m := m) (m' := { m with steps := m.steps + 1 }) rfl).trans hk.same, hk.ok⟩
theorem Ext.widen {m m' : MM} {b c B C : Nat} (h : Ext m m' b c) (hb : B ≤ b ∧ b + c ≤ B + C) : Ext m m' B C := ⟨h.cells, h.len, fun i hi => h.named i (by omega)⟩
theorem home_num (l : List MR) (k : Int) : ∀ i, (l[homeF l k i]?).map (·.num) = some k ∨ homeF l k i = 0
 | 0 => Or.inr rfl
 | i + 1 => by
  simp only [homeF]
  split
  ·rename_i h; exact Or.inl h
  ·exact home_num l k i
theorem homeF_leO (l : List MR) (k : Int) : ∀ i, homeF l k i ≤ i
 | 0 => Nat.le_refl _
 | i + 1 => by
  simp only [homeF]
  split
  ·exact Nat.le_refl _
  ·exact Nat.le_succ_of_le (homeF_leO l k i)
theorem LiveR.opn {m : MM} (k : Int) : ∀ {T : Ty} {v : MV}, LiveR m T v → LiveR (m.opn k) T v
 | .n, _, h => h
 | .p r A B, v, h => by
  simp only [LiveR] at h ⊢
  obtain ⟨h0, i, c, g, h1, h2, h3, h4, h5, h6, h7⟩ := h
  refine ⟨h0, i, c, g, h1, h2, ?_, h4, h5, LiveR.opn k h6, LiveR.opn k h7⟩
  simp only [MM.opn]
  rw [List.getElem?_append_left (List.getElem?_eq_some_iff.1 h3).1]; exact h3
theorem cell_lv {m : MM} {A B : Ty} {v u : MV} {r : Nat} (hr : 0 < m.regs.length) (ha : LiveR m A v) (hb : LiveR m B u) : SameR m (m.newCell (r : Int) v u).2 ∧ LiveR (m.newCell (r : Int) v u).2 (.p r A B) (m.newCell (r : Int) v u).1 := by
 have hhl : m.home (r : Int) < m.regs.length := by
  have := homeF_leO m.regs (r : Int) (m.regs.length - 1)
  unfold MM.home; omega
 have hg : m.regs[m.home (r : Int)]? = some m.regs[m.home (r : Int)] := List.getElem?_eq_getElem hhl
 have hn := home_num m.regs (r : Int) (m.regs.length - 1)
 have hext := cell_ext m (r : Int) v u 0 0
 have hsame : SameR m (m.newCell (r : Int) v u).2 := by
  unfold SameR MM.newCell
  rw [hg]
  simp only [List.map_set]
  rw [show rkey { m.regs[m.home (r : Int)] with cells := m.regs[m.home (r : Int)].cells + 1 } = (m.regs.map rkey)[m.home (r : Int)]'(by simpa using hhl) by simp [rkey]]
  exact List.set_getElem_self _
 have hA := ha.on hext.cells hsame
 have hB := hb.on hext.cells hsame
 refine ⟨hsame, ?_⟩
 revert hA hB
 unfold MM.newCell
 rw [hg]
 intro hA hB
 simp only [LiveR]
 refine ⟨trivial, m.cells.length, ⟨v, u, m.home (r : Int), m.regs[m.home (r : Int)].ser⟩, { m.regs[m.home (r : Int)] with cells := m.regs[m.home (r : Int)].cells + 1 }, rfl, by simp, by simp [hhl], rfl, ?_, hA, hB⟩
 rcases hn with hn | hn
 ·left
  have : m.regs[m.home (r : Int)]?.map (·.num) = some (r : Int) := hn
  rw [hg] at this
  simpa using this
 ·exact Or.inr hn
theorem use_lv {m : MM} {r : Nat} {A B : Ty} {v : MV} (h : LiveR m (.p r A B) v) : (m.use v).2 = m ∧ LiveR m A (m.use v).1.a ∧ LiveR m B (m.use v).1.b := by
 simp only [LiveR] at h
 obtain ⟨hc, i, c, g, hv, hi, h3, h4, _, ha, hb⟩ := h
 have hil := (List.getElem?_eq_some_iff.1 hi).1
 have e2 : m.cells.getD v.n.toNat c0 = c := by rw [hv, Int.toNat_natCast, List.getD_eq_getElem?_getD, hi]; rfl
 have hlv : m.isLive c = true := by unfold MM.isLive; rw [h3]; simp [h4]
 have e : m.use v = (c, m) := by
  unfold MM.use
  rw [if_neg (by rw [hc, hv]; simp; omega), e2, if_pos hlv]
 rw [e]; exact ⟨rfl, ha, hb⟩
theorem mTurns_fk (i : Int) (f : MM → MV × MM) (k : Nat) (v : MV) (m : MM) (h : m.fault ≠ 0) : mTurns i f k v m = (v, m) := by
 cases k with
 | zero => rfl
 | succ k => simp only [mTurns]; rw [if_pos h]
theorem turns_lv {T : Ty} {j B C : Nat} {g : MM → MV × MM} {P : MM → Prop} (hj : B ≤ j ∧ j < B + C) (hstep : ∀ m v, P m → m.fault = 0 → LiveR m T v → LvO (m.name (j : Int) v) (g (m.name (j : Int) v)) B C T ∧ P (g (m.name (j : Int) v)).2) : ∀ (k : Nat) (m : MM) (v : MV), P m → m.fault = 0 → LiveR m T v → LvO m (mTurns (j : Int) g k v m) B C T
 | 0, m, v, _, hf, hv => ⟨Ext.refl _ _ _, SameR.refl _, Or.inr ⟨hf, hv⟩⟩
 | k + 1, m, v, hP, hf, hv => by
  simp only [mTurns]
  rw [if_neg (fun hn => hn hf)]
  obtain ⟨h1, h2⟩ := hstep m v hP hf hv
  have hne := name_ext m j v B C hj
  have hns : SameR m (m.name (j : Int) v) := SameR.of (name_rl m j v)
  have hE := Ext.trans (b := B) (c := C) hne h1.ext (by omega) (by omega)
  have hS := hns.trans h1.same
  rcases h1.ok with h12 | ⟨h0, hl⟩
  ·rw [mTurns_fk _ _ _ _ _ (by rw [h12]; decide)]
   exact ⟨hE, hS, Or.inl h12⟩
  ·have h3 := turns_lv hj hstep k _ _ h2 h0 hl
   exact ⟨Ext.trans (b := B) (c := C) hE h3.ext (by omega) (by omega), hS.trans h3.same, h3.ok⟩
end Go.Proofs.YtpicaknklgccoaaGreatDoor
