import Derived.Test.YtpicaknklgccoaaGreatDoorX33
import Derived.Test.YtpicaknklgccoaaGreatDoorX30
namespace Go.Proofs.YtpicaknklgccoaaGreatDoor
open Go.Lib (decDigits)
theorem closed_wrap (i : Int) (t : PT) : ∀ (l : List Int) (r : Nat) (rs : List Int), (∀ rs' : List Int, (∀ x ∈ rs, x ∈ rs') → (∀ j, l[j]? = some i → ((r + j : Nat) : Int) ∈ rs') → Closed rs' t) → Closed rs (wrapN l r i t)
 | [], r, rs, h => h rs (fun _ hx => hx) (fun j hj => by simp at hj)
 | a :: l, r, rs, h => by
  simp only [wrapN]
  split
  ·rename_i e
   simp only [Closed, if_true, ClosedL, and_true]
   refine ⟨(fun h => by cases h), closed_wrap i t l (r + 1) _ (fun rs' h1 h2 => h rs' (fun x hx => h1 x (by simp [hx])) (fun j hj => ?_))⟩
   cases j with
   | zero => exact h1 _ (by rw [valueH]; simp)
   | succ j => rw [show r + (j + 1) = r + 1 + j by omega]; exact h2 j (by simpa using hj)
  ·rename_i e
   refine closed_wrap i t l (r + 1) rs (fun rs' h1 h2 => h rs' h1 (fun j hj => ?_))
   cases j with
   | zero => simp only [List.getElem?_cons_zero, Option.some.injEq] at hj; exact absurd hj e
   | succ j => rw [show r + (j + 1) = r + 1 + j by omega]; exact h2 j (by simpa using hj)
def QIn (regs news : List Int) (ns : List NR) (rs : List Int) (lo hi : Nat) : Prop := ∀ (i : Nat) (n : NR), lo ≤ i → i < hi → ns[i]? = some n → n.form = 4 → rgV regs i ∈ rs ∨ ∃ (j : Nat) (m : NR), lo ≤ j ∧ j < hi ∧ ns[j]? = some m ∧ news[(rgV regs i).toNat]? = some (j : Int) ∧ m.at_ ≤ n.at_ ∧ n.beh ≤ m.beh
mutual
theorem PosN.in_ : ∀ {t : PT} {ms : List NR} {lo hi : Nat}, PosN t ms lo hi → ∀ n ∈ ms, lo ≤ n.at_ ∧ n.at_ < n.beh ∧ n.beh ≤ hi
 | .num p _, ms, lo, hi, h, n, hn => by simp only [PosN] at h; obtain ⟨m, rfl, h1, h2, h3, h4⟩ := h; simp only [List.mem_singleton] at hn; subst hn; omega
 | .name p _, ms, lo, hi, h, n, hn => by simp only [PosN] at h; obtain ⟨m, rfl, h1, h2, h3, h4⟩ := h; simp only [List.mem_singleton] at hn; subst hn; omega
 | .node p _ _ _ kids, ms, lo, hi, h, n, hn => by
  simp only [PosN] at h
  obtain ⟨ks, m, rfl, h1, h2, h3, h4, h5⟩ := h
  rcases List.mem_append.1 hn with hn | hn
  ·have := PosNs.in_ h3 n hn; omega
  ·simp only [List.mem_singleton] at hn; subst hn; omega
theorem PosNs.in_ : ∀ {ts : List PT} {ms : List NR} {lo hi : Nat}, PosNs ts ms lo hi → ∀ n ∈ ms, lo ≤ n.at_ ∧ n.at_ < n.beh ∧ n.beh ≤ hi
 | [], ms, lo, hi, h, n, hn => by simp only [PosNs] at h; rw [h.1] at hn; simp at hn
 | t :: r, ms, lo, hi, h, n, hn => by
  simp only [PosNs] at h
  obtain ⟨a, c, mid, rfl, h1, h2⟩ := h
  have hl := h1.lt
  have hr := h2.le
  rcases List.mem_append.1 hn with hn | hn
  ·have := PosN.in_ h1 n hn; omega
  ·have := PosNs.in_ h2 n hn; omega
end
mutual
theorem PosN.len : ∀ {t : PT} {ms : List NR} {lo hi : Nat}, PosN t ms lo hi → ms.length = t.cnt
 | .num p _, ms, lo, hi, h => by simp only [PosN] at h; obtain ⟨m, rfl, _⟩ := h; rfl
 | .name p _, ms, lo, hi, h => by simp only [PosN] at h; obtain ⟨m, rfl, _⟩ := h; rfl
 | .node p _ _ _ kids, ms, lo, hi, h => by
  simp only [PosN] at h
  obtain ⟨ks, m, rfl, h1, h2, h3, h4, h5⟩ := h
  simp only [PT.cnt, List.length_append, List.length_singleton, PosNs.len h3]; omega
theorem PosNs.len : ∀ {ts : List PT} {ms : List NR} {lo hi : Nat}, PosNs ts ms lo hi → ms.length = cntL ts
 | [], ms, lo, hi, h => by simp only [PosNs] at h; rw [h.1]; rfl
 | t :: r, ms, lo, hi, h => by
  simp only [PosNs] at h
  obtain ⟨a, c, mid, rfl, h1, h2⟩ := h
  simp only [cntL, List.length_append, PosN.len h1, PosNs.len h2]
end
def Emb (ns ms : List NR) (b : Nat) : Prop := ∀ (k : Nat) (n : NR), ms[k]? = some n → ns[b + k]? = some n
theorem Emb.mem {ns ms : List NR} {b j : Nat} {m : NR} (h : Emb ns ms b) (h1 : b ≤ j) (h2 : j < b + ms.length) (hm : ns[j]? = some m) : m ∈ ms := by
 have hk : j - b < ms.length := by omega
 have := h (j - b) ms[j - b] (List.getElem?_eq_getElem hk)
 rw [show b + (j - b) = j by omega, hm] at this
 simp only [Option.some.injEq] at this
 rw [this]; exact List.getElem_mem hk
theorem Emb.left {ns a c : List NR} {b : Nat} (h : Emb ns (a ++ c) b) : Emb ns a b := fun k n hn => h k n (by rw [List.getElem?_append_left (List.getElem?_eq_some_iff.1 hn).1]; exact hn)
theorem Emb.right {ns a c : List NR} {b : Nat} (h : Emb ns (a ++ c) b) : Emb ns c (b + a.length) := fun k n hn => by
 have := h (a.length + k) n (by rw [List.getElem?_append_right (by omega), Nat.add_sub_cancel_left]; exact hn)
 rw [Nat.add_assoc]; exact this
theorem value_rgW {regs : List Int} {i : Nat} (h : 0 ≤ rgV regs i) : valueL (rgW regs i) = rgV regs i := by
 unfold rgW
 rw [if_neg (by omega), valueH]; omega
mutual
theorem closed_lay {regs news : List Int} {ns : List NR} (H : LyT regs ns) : ∀ (t : PT) (ms : List NR) (lo hi b : Nat) (rs : List Int), PosN t ms lo hi → Emb ns ms b → Shows ns t b → NoNew t → QIn regs news ns rs b (b + t.cnt) → Closed rs (t.lay regs news b)
 | .num _ _, ms, lo, hi, b, rs, _, _, _, _, _ => closed_wrap _ _ news 0 rs (fun _ _ _ => by simp [PT.lay0, Closed])
 | .name _ _, ms, lo, hi, b, rs, _, _, _, _, _ => closed_wrap _ _ news 0 rs (fun _ _ _ => by simp [PT.lay0, Closed])
 | .node p k nm rg kids, ms, lo, hi, b, rs, hp, he, hs, hn, hq => by
  cases hn with
  | node hk hn =>
  simp only [PosN] at hp
  obtain ⟨ks, n0, rfl, h1, h2, h3, h4, h5⟩ := hp
  simp only [Shows] at hs
  obtain ⟨⟨n, hn1, hf, _⟩, hks⟩ := hs
  have hkl := h3.len
  have hn0 : ns[b + cntL kids]? = some n0 := by
   have := he ks.length n0 (by rw [List.getElem?_append_right (Nat.le_refl _), Nat.sub_self]; rfl)
   rwa [hkl] at this
  have hnn : n = n0 := by rw [hn1] at hn0; exact Option.some.inj hn0
  subst hnn
  have hek : Emb ns ks b := he.left
  simp only [PT.cnt] at hq
  unfold PT.lay
  refine closed_wrap _ _ news 0 rs (fun rs' g1 g2 => ?_)
  simp only [PT.cnt, idx_cnt] at g2
  simp only [PT.lay0, Closed, if_neg hk]
  refine ⟨fun hpair => ?_, closedL_lay H kids ks _ _ b rs' h3 hek hks hn (fun i m i1 i2 hm h4m => ?_)⟩
  ·have h4 : n.form = 4 := by rw [hf]; exact (form4 k).2 hpair
   have hr := (H _ _ hn1).1 h4
   rw [value_rgW hr.1]
   rcases hq (b + cntL kids) n (by omega) (by omega) hn1 h4 with hq | ⟨j, m, j1, j2, hj, hnj, ha, hb⟩
   ·exact g1 _ hq
   ·by_cases hje : j = b + cntL kids
    ·have := g2 (rgV regs (b + cntL kids)).toNat (by rw [hnj, hje])
     rw [Nat.zero_add, Int.toNat_of_nonneg hr.1] at this
     exact this
    ·exfalso
     have := h3.in_ m (hek.mem j1 (by omega) hj)
     omega
  ·rcases hq i m i1 (by omega) hm h4m with hq | ⟨j, m', j1, j2, hj, hnj, ha, hb⟩
   ·exact Or.inl (g1 _ hq)
   ·by_cases hje : j = b + cntL kids
    ·left
     have hr := (H _ _ hm).1 h4m
     have := g2 (rgV regs i).toNat (by rw [hnj, hje])
     rw [Nat.zero_add, Int.toNat_of_nonneg hr.1] at this
     exact this
    ·exact Or.inr ⟨j, m', j1, by omega, hj, hnj, ha, hb⟩
theorem closedL_lay {regs news : List Int} {ns : List NR} (H : LyT regs ns) : ∀ (ts : List PT) (ms : List NR) (lo hi b : Nat) (rs : List Int), PosNs ts ms lo hi → Emb ns ms b → ShowsL ns ts b → (∀ x ∈ ts, NoNew x) → QIn regs news ns rs b (b + cntL ts) → ClosedL rs (layL regs news ts b)
 | [], ms, lo, hi, b, rs, _, _, _, _, _ => by simp [layL, ClosedL]
 | t :: r, ms, lo, hi, b, rs, hp, he, hs, hn, hq => by
  simp only [PosNs] at hp
  obtain ⟨a, c, mid, rfl, h1, h2⟩ := hp
  simp only [ShowsL] at hs
  simp only [cntL] at hq
  have la := h1.len
  have lc := h2.len
  have hr := he.right
  rw [la] at hr
  simp only [layL, ClosedL]
  refine ⟨closed_lay H t a lo mid b rs h1 he.left hs.1 (hn t (by simp)) (fun i n i1 i2 hi h4 => ?_), closedL_lay H r c mid hi (b + t.cnt) rs h2 hr hs.2 (fun x hx => hn x (by simp [hx])) (fun i n i1 i2 hi h4 => ?_)⟩
  ·rcases hq i n i1 (by omega) hi h4 with hq | ⟨j, m, j1, j2, hj, hnj, ha, hb⟩
   ·exact Or.inl hq
   ·by_cases hlt : j < b + t.cnt
    ·exact Or.inr ⟨j, m, j1, hlt, hj, hnj, ha, hb⟩
    ·exfalso
     have q1 := h1.in_ n (he.left.mem i1 (by omega) hi)
     have q2 := h2.in_ m (hr.mem (by omega) (by omega) hj)
     omega
  ·rcases hq i n (by omega) (by omega) hi h4 with hq | ⟨j, m, j1, j2, hj, hnj, ha, hb⟩
   ·exact Or.inl hq
   ·by_cases hlt : j < b + t.cnt
    ·exfalso
     have q1 := h1.in_ m (he.left.mem j1 (by omega) hj)
     have q2 := h2.in_ n (hr.mem i1 (by omega) hi)
     omega
    ·exact Or.inr ⟨j, m, by omega, by omega, hj, hnj, ha, hb⟩
end
theorem spanF_in (T : List Ty) (rg : Nat) : ∀ (l : List NR) (k a b : Nat), (spanF T rg l k a b).1 ≤ a ∧ b ≤ (spanF T rg l k a b).2 ∧ ∀ (i : Nat) (n : NR), l[i]? = some n → (knownT T ((k + i : Nat) : Int)).has rg = true → (spanF T rg l k a b).1 ≤ n.at_ ∧ n.beh ≤ (spanF T rg l k a b).2
 | [], k, a, b => ⟨Nat.le_refl _, Nat.le_refl _, fun i n h => by simp at h⟩
 | m :: r, k, a, b => by
  simp only [spanF]
  split
  ·rename_i hm
   obtain ⟨h1, h2, h3⟩ := spanF_in T rg r (k + 1) (if m.at_ < a then m.at_ else a) (if b < m.beh then m.beh else b)
   have e1 : (if m.at_ < a then m.at_ else a) ≤ a ∧ (if m.at_ < a then m.at_ else a) ≤ m.at_ := by split <;> omega
   have e2 : b ≤ (if b < m.beh then m.beh else b) ∧ m.beh ≤ (if b < m.beh then m.beh else b) := by split <;> omega
   refine ⟨by omega, by omega, fun i n hn hh => ?_⟩
   cases i with
   | zero => simp only [List.getElem?_cons_zero, Option.some.injEq] at hn; subst hn; omega
   | succ i => exact h3 i n (by simpa using hn) (by rw [show k + 1 + i = k + (i + 1) by omega]; exact hh)
  ·rename_i hm
   obtain ⟨h1, h2, h3⟩ := spanF_in T rg r (k + 1) a b
   refine ⟨h1, h2, fun i n hn hh => ?_⟩
   cases i with
   | zero => exact absurd hh (by simpa using hm)
   | succ i => exact h3 i n (by simpa using hn) (by rw [show k + 1 + i = k + (i + 1) by omega]; exact hh)
theorem spanF_bd (T : List Ty) (rg A B : Nat) : ∀ (l : List NR) (k a b : Nat), A ≤ a → b ≤ B → (∀ n ∈ l, A ≤ n.at_ ∧ n.beh ≤ B) → A ≤ (spanF T rg l k a b).1 ∧ (spanF T rg l k a b).2 ≤ B
 | [], k, a, b, h1, h2, _ => ⟨h1, h2⟩
 | m :: r, k, a, b, h1, h2, h3 => by
  have hm := h3 m (by simp)
  simp only [spanF]
  split
  ·exact spanF_bd T rg A B r (k + 1) _ _ (by split <;> omega) (by split <;> omega) (fun n hn => h3 n (by simp [hn]))
  ·exact spanF_bd T rg A B r (k + 1) a b h1 h2 (fun n hn => h3 n (by simp [hn]))
theorem aboutF_is (T : List Ty) (rg a b : Nat) : ∀ (l : List NR) (k i : Nat) (n : NR), l[i]? = some n → n.at_ ≤ a → b ≤ n.beh → (knownT T ((k + i : Nat) : Int)).has rg = false → ∃ (j : Nat) (m : NR), l[j]? = some m ∧ aboutF T rg a b l k = ((k + j : Nat) : Int) ∧ m.at_ ≤ a ∧ b ≤ m.beh
 | [], k, i, n, h, _, _, _ => by simp at h
 | x :: r, k, i, n, h, h1, h2, h3 => by
  simp only [aboutF]
  split
  ·rename_i hc
   exact ⟨0, x, rfl, rfl, hc.1, hc.2.1⟩
  ·rename_i hc
   cases i with
   | zero =>
    simp only [List.getElem?_cons_zero, Option.some.injEq] at h
    subst h
    exact absurd ⟨h1, h2, by simpa using h3⟩ hc
   | succ i =>
    obtain ⟨j, m, e1, e2, e3⟩ := aboutF_is T rg a b r (k + 1) i n (by simpa using h) h1 h2 (by rw [show k + 1 + i = k + (i + 1) by omega]; exact h3)
    exact ⟨j + 1, m, by simpa using e1, by rw [e2, show k + 1 + j = k + (j + 1) by omega], e3⟩
theorem posN_root {t : PT} {ns : List NR} {lo hi : Nat} (h : PosN t ns lo hi) (n0 : NR) (h0 : ns[ns.length - 1]? = some n0) : n0.at_ < n0.beh ∧ ∀ n ∈ ns, n0.at_ ≤ n.at_ ∧ n.beh ≤ n0.beh := by
 cases t with
 | num p s => simp only [PosN] at h; obtain ⟨m, rfl, h1, h2, h3, h4⟩ := h; simp at h0; subst h0; exact ⟨by omega, fun n hn => by simp only [List.mem_singleton] at hn; subst hn; omega⟩
 | name p s => simp only [PosN] at h; obtain ⟨m, rfl, h1, h2, h3, h4⟩ := h; simp at h0; subst h0; exact ⟨by omega, fun n hn => by simp only [List.mem_singleton] at hn; subst hn; omega⟩
 | node p k nm rg kids =>
  simp only [PosN] at h
  obtain ⟨ks, m, rfl, h1, h2, h3, h4, h5⟩ := h
  simp at h0
  subst h0
  refine ⟨by omega, fun n hn => ?_⟩
  rcases List.mem_append.1 hn with hn | hn
  ·have := h3.in_ n hn; omega
  ·simp only [List.mem_singleton] at hn; subst hn; omega
theorem laid_closed {e : PT} {ns : List NR} {n0 : NR} (hwt : WT [] e .n) (hnn : NoNew e) (hta : e.tame) (hN : Nds e ns n0) (hL : Lay2 (layR e ns n0) (layN e ns n0) ns (layT e ns n0)) : Closed [] (e.lay (layR e ns n0) (layN e ns n0) 0) := by
 obtain ⟨lo, hi, hp⟩ := hN.pos
 obtain ⟨hr0, hrr⟩ := posN_root hp n0 hN.last
 have hlen := hN.na.len
 have hcp := cnt_pos' e
 obtain ⟨_, hroot⟩ := lay_wtr hL hwt hnn hta [] [] 0 [] ns [] hN.na (by simp) rfl (fun s U hs => by simp [look] at hs)
 have hrt := bare_num hroot
 rw [Nat.zero_add, show (((e.cnt : Nat) : Int) - 1) = ((ns.length - 1 : Nat) : Int) by omega] at hrt
 refine closed_lay hL.pr e ns lo hi 0 [] hp (fun k n hn => by rw [Nat.zero_add]; exact hn) hN.na.shows0 hnn (fun i n i1 i2 hn h4 => Or.inr ?_)
 have hr := (hL.pr i n hn).1 h4
 obtain ⟨r, hrn⟩ : ∃ r : Nat, rgV (layR e ns n0) i = (r : Int) := ⟨(rgV (layR e ns n0) i).toNat, by omega⟩
 have hty := hL.ty i n hn
 have hhas : (knownT (layT e ns n0) ((0 + i : Nat) : Int)).has r = true := by
  rw [Nat.zero_add, hty]
  unfold tyR
  have : (setR n (rgV (layR e ns n0) i)).form = 4 := h4
  simp only [this]
  simp only [Nat.reduceEqDiff, if_false, if_true, setR, hrn, Int.toNat_natCast]
  rw [has_p]; simp
 have hrl : r < (layF e ns n0).length := by
  have h1 : rgV (layR e ns n0) i = idxF (layF e ns n0) (fst' (layE ns n0) n.at_) := by unfold layR; rw [rgV_regsL _ _ ns i n hn, if_pos h4]
  unfold idxF at h1
  split at h1
  ·rename_i x hx
   have := (List.findIdx?_eq_some_iff_getElem.1 hx).1
   omega
  ·omega
 obtain ⟨s1, s2, s3⟩ := spanF_in (layT e ns n0) r ns 0 n0.beh n0.at_
 obtain ⟨b1, b2⟩ := spanF_bd (layT e ns n0) r n0.at_ n0.beh ns 0 n0.beh n0.at_ (by omega) (by omega) hrr
 obtain ⟨sa, sb⟩ := s3 i n hn hhas
 obtain ⟨j, m, e1, e2, e3, e4⟩ := aboutF_is (layT e ns n0) r (spanF (layT e ns n0) r ns 0 n0.beh n0.at_).1 (spanF (layT e ns n0) r ns 0 n0.beh n0.at_).2 ns 0 (ns.length - 1) n0 hN.last b1 b2 (by rw [Nat.zero_add, hrt]; rfl)
 refine ⟨j, m, Nat.zero_le _, by have := (List.getElem?_eq_some_iff.1 e1).1; omega, e1, ?_, by omega, by omega⟩
 rw [hrn, Int.toNat_natCast]
 unfold layN newsL
 rw [List.getElem?_map, List.getElem?_range hrl]
 simp only [Option.map_some]
 rw [e2, Nat.zero_add]
end Go.Proofs.YtpicaknklgccoaaGreatDoor
namespace Go.Proofs.YtpicaknklgccoaaGreatDoor
open Go.RowKit
mutual
theorem np_closed : ∀ (e : PT) (rs : List Int), Closed rs e.np → Closed rs e
 | .num _ _, _, _ => by simp [Closed]
 | .name _ _, _, _ => by simp [Closed]
 | .node _ k nm rg kids, rs, h => by
  simp only [PT.np, Closed] at h ⊢
  exact ⟨h.1, npL_closed kids _ h.2⟩
theorem npL_closed : ∀ (l : List PT) (rs : List Int), ClosedL rs (npL l) → ClosedL rs l
 | [], _, _ => by simp [ClosedL]
 | t :: r, rs, h => by
  simp only [npL, ClosedL] at h ⊢
  exact ⟨np_closed t rs h.1, npL_closed r rs h.2⟩
end
theorem ended_run {x : KE} (h : KT [] x 0) (hpr : x.prs ≤ 75) (hlen : x.len ≤ 1308) (src : ByteArray) (hsrc : src = bs (x.pt []).tidy) :
  ∃ P : ByteArray, (∀ w, Lib.TabIs Tryz.prog w "internal/strconv.uint64pow10" .u64 Lib.pow10Tab → Calls Tryz.prog 16 #[.string src] w fun v w' => v = .returned (.tuple #[.string P, .int .i64 (0 : Nat)]) ∧ Below w.heap.size w w') ∧
   ∃ (v : Value) (E : Nat), ((ev 20000 (x.pt []) [] ⟨0, 0, 0⟩).2.e = 12 ∧ E = 12 ∧ v = .agg #[.string ⟨#[]⟩, .int .i64 0, .int .i64 0, .int .i64 0, .int .i64 0] ∨ (ev 20000 (x.pt []) [] ⟨0, 0, 0⟩).2.e = 0 ∧ E = 0 ∧ ∃ a b c : Int, v = .agg #[.string (bs (ev 20000 (x.pt []) [] ⟨0, 0, 0⟩).1.txt), .int .i64 a, .int .i64 b, .int .i64 c, .int .i64 0]) ∧
    ∀ w, Lib.TabIs Tryz.prog w "internal/strconv.uint64pow10" .u64 Lib.pow10Tab → Calls Tryz.prog 18 #[.string P, .int .i64 (20000 : Nat)] w fun r w' => r = .returned (.tuple #[v, .int .i64 E]) ∧ Below w.heap.size w w' := by
 obtain ⟨e, hpe, hchk, hnp, hev⟩ := built_PE (placed := false) (rg := []) rfl h (by omega)
 have hplen := pt_len (rg := []) h
 have hsl : src.data.toList = (x.pt []).tidy := by rw [hsrc]; simp [bs]
 have hss : src.size ≤ 3000 := by rw [hsrc, bs_size]; simp at hplen; omega
 rw [← hsl] at hpe
 obtain ⟨ns, n0, hN, hL, hPl⟩ := leasePlace_ok src hss e hpe hchk
 have hta := (hpe.tame (tokens_tame _)).1
 obtain ⟨⟨_, hnn⟩, _⟩ := PE.plain hpe (tokens_tame _)
 obtain ⟨e2, T', hpe2, hchk2, hwt2, hwr, hev2, hl9, he2⟩ := laid_PE h hpr hlen hnp hta hnn hN hL
 have hwt : WT [] e .n := np_WT e (by rw [hnp]; exact pt_WT h (by simp))
 have hcl : Closed [] e2 := np_closed e2 [] (by rw [he2]; exact laid_closed hwt hnn hta hN hL)
 obtain ⟨TX, hTX⟩ : ∃ TX, TX = e.wtx (layR e ns n0) (layN e ns n0) 0 := ⟨_, rfl⟩
 rw [← hTX] at hPl hpe2 hl9
 refine ⟨bs TX, hPl, ?_⟩
 have hd : (bs TX).data.toList = TX := by simp [bs]
 have hrg := rgdO_of e2 (hpe2.tame (tokens_tame _)).1 (hpe2.rg3 (tokens_rg _)).1
 have hcnt : e2.cnt ≤ 9000 := by have := Study_len (s := bs TX) (by rw [hd]; exact hpe2); rw [bs_size] at this; omega
 have hleft := left_none 20000 (by omega) e2 hpe2.wf hrg hcnt hcl
 obtain ⟨v, E, hans, h13, hRu⟩ := leaseRun_placedM (bs TX) (by rw [bs_size]; exact hl9) e2 _ (by rw [hd]; exact hpe2) hchk2 hwt2 (by have := tyZ_size 0; omega) 20000 (by omega)
 rw [hev2] at hans
 refine ⟨v, E, ?_, hRu⟩
 rcases hans with ⟨g, _⟩ | ⟨g1, g2, g3⟩ | ⟨g1, g2, g3⟩
 ·exact absurd g (h13 T' hwr)
 ·exact Or.inl ⟨g1, g2, g3⟩
 ·rw [hleft] at g3
  exact Or.inr ⟨g1, g2, _, _, _, g3⟩
def aggE (S : ByteArray) (a b c d : Int) : Value := .agg #[.string S, .int .i64 a, .int .i64 b, .int .i64 c, .int .i64 d]
set_option maxRecDepth 100000 in
set_option maxHeartbeats 4000000 in
theorem Ended_walk (ra : Option Addr) (rn rc : Nat) (w : World) (x : KE) (src P US VS : ByteArray) (Ua Ub Uc Ud Va Vb Vc Vd : Int) (E : Nat) (ends : Bool) (hA : (ends = false ∧ E = 12) ∨ (ends = true ∧ E = 0 ∧ VS = US ∧ Vd = 0))
  (HBD : Hid (Calls Tryz.prog 21 #[.int .i64 0, .slice ra rn rc] w fun e w' => ∃ p, e = .returned (.pointer (some ⟨p, 0, none⟩)) ∧ Below w.heap.size w w' ∧ KIn w' x p))
  (HTX : Hid (∀ W' p, Below w.heap.size w W' → KIn W' x p → Calls Tryz.prog 22 #[.pointer (some ⟨p, 0, none⟩), .string ⟨#[]⟩] W' fun e w' => e = .returned (.string src) ∧ Below W'.heap.size W' w'))
  (HPL : Hid (∀ W, Below w.heap.size w W → Calls Tryz.prog 16 #[.string src] W fun e w' => e = .returned (.tuple #[.string P, .int .i64 0]) ∧ Below W.heap.size W w'))
  (HRU : Hid (∀ W, Below w.heap.size w W → Calls Tryz.prog 18 #[.string P, .int .i64 20000] W fun e w' => e = .returned (.tuple #[aggE VS Va Vb Vc Vd, .int .i64 E]) ∧ Below W.heap.size W w'))
  (HWK : Hid (∀ W p, Below w.heap.size w W → KIn W x p → Calls Tryz.prog 24 #[.pointer (some ⟨p, 0, none⟩), .int .i64 20000] W fun e w' => e = .returned (.tuple #[aggE US Ua Ub Uc Ud, .bool ends]) ∧ Below W.heap.size W w')) :
  Calls Tryz.prog 10 #[.slice ra rn rc] w fun e w' => e = .returned (.bool true) ∧ Below w.heap.size w w' := by
 unfold aggE at HWK HRU
 go_enter Tryz.func10, Tryz.ntmps10
 go_wp2_with fail
 refine Calls.mono HBD.out ?_
 rintro _ w1 ⟨p, rfl, hb1, hk1⟩
 have HB1 : Hid _ := hb1
 have HK1 : Hid _ := hk1
 clear hb1 hk1 HBD
 go_wp2_with fail
 refine Calls.mono (HTX.out w1 p HB1.out HK1.out) ?_
 rintro _ w2 ⟨rfl, hb2⟩
 have HB2 : Hid _ := HB1.out.trans (hb2.mono HB1.out.size)
 have HK2 : Hid _ := HK1.out.below hb2
 clear hb2 HB1 HK1 HTX
 go_wp2_with fail
 refine Calls.mono (HPL.out w2 HB2.out) ?_
 rintro _ w3 ⟨rfl, hb3⟩
 have HB3 : Hid _ := HB2.out.trans (hb3.mono HB2.out.size)
 have HK3 : Hid _ := HK2.out.below hb3
 clear hb3 HB2 HK2 HPL
 go_wp2_with fail
 refine Calls.mono (HRU.out w3 HB3.out) ?_
 rintro _ w4 ⟨rfl, hb4⟩
 have hB4 := HB3.out.trans (hb4.mono HB3.out.size)
 have hal : Below w4.heap.size w4 (w4.alloc (.cells #[.string VS, .int .i64 Va, .int .i64 Vb, .int .i64 Vc, .int .i64 Vd] 23 (0, 0))) := belY_al (Below.refl _ _) _
 have HB4 : Hid _ := hB4.alloc hB4.size (.cells #[.string VS, .int .i64 Va, .int .i64 Vb, .int .i64 Vc, .int .i64 Vd] 23 (0, 0))
 have HQ4 : Hid _ := blk_new w4 (.cells #[.string VS, .int .i64 Va, .int .i64 Vb, .int .i64 Vc, .int .i64 Vd] 23 (0, 0))
 have HK4 : Hid _ := (HK3.out.below hb4).below hal
 clear hb4 hB4 hal HB3 HK3 HRU
 go_wp2_with fail
 refine Calls.mono (HWK.out _ p HB4.out HK4.out) ?_
 rintro _ w5 ⟨rfl, hb5⟩
 have hB5 := HB4.out.trans (hb5.mono HB4.out.size)
 have hq5 := (hb5.block _ (blk_lt HQ4.out)).trans HQ4.out
 have HB5 : Hid _ := hB5.alloc hB5.size (.cells #[.string US, .int .i64 Ua, .int .i64 Ub, .int .i64 Uc, .int .i64 Ud] 23 (0, 0))
 obtain ⟨q0, q1, q2, q3, q4⟩ := res_cells hq5
 have ql := blk_lt hq5
 have qn := Nat.ne_of_lt ql
 clear hb5 hB5 hq5 HB4 HQ4 HK4 HWK
 rcases hA with ⟨rfl, rfl⟩ | ⟨rfl, rfl, rfl, rfl⟩
 ·go_wp2
  go_ret
  exact ⟨rfl, HB5.out⟩
 ·have qS : (VS.toList == VS.toList) = true := by simp
  go_wp2
  go_ret
  exact ⟨rfl, HB5.out⟩
theorem Ended_any (rv : Value) (raw : List Int) (w : World) (h : RawIn w rv raw) (htab : Lib.TabIs Tryz.prog w "internal/strconv.uint64pow10" .u64 Lib.pow10Tab) :
  Calls Tryz.prog 10 #[rv] w fun v w' => v = .returned (.bool true) ∧ Below w.heap.size w w' := by
 obtain ⟨ra, rn, rc, rfl⟩ : ∃ ra rn rc, rv = .slice ra rn rc := by
  rcases h.2 with ⟨h1, _⟩ | ⟨a, cap, h1, _, _⟩
  ·exact ⟨_, _, _, h1⟩
  ·exact ⟨_, _, _, h1⟩
 have hbd := build_any w 0 (.slice ra rn rc) raw (by constructor <;> omega) h
 obtain ⟨hKT, hlen, hprs, _⟩ := build_ok 0 raw
 rw [show pickF 0 5 = 0 from rfl] at hKT
 generalize buildF 0 raw = x at *
 have hplen := pt_len (rg := []) hKT
 have htx := ktext_any [] hKT (by simp)
 obtain ⟨src, hsrc⟩ : ∃ src, src = bs (x.pt []).tidy := ⟨_, rfl⟩
 have hit : ∀ W, Below w.heap.size w W → ItoaOk W := fun W hW => by
  intro n W' hn hW'
  exact itoa_ok w htab n W' hn (hW.trans (hW'.mono hW.size))
 obtain ⟨P, hPl, v, E, hans, hRu⟩ := ended_run hKT hprs hlen src hsrc
 obtain ⟨R, hR⟩ : ∃ R, R = ev 20000 (x.pt []) [] ⟨0, 0, 0⟩ := ⟨_, rfl⟩
 rw [← hR] at hans
 have hWk : ∀ W p, Below w.heap.size w W → KIn W x p → Calls Tryz.prog 24 #[.pointer (some ⟨p, 0, none⟩), .int .i64 (20000 : Nat)] W fun v w' => v = .returned (.tuple #[evalV R, .bool (decide (R.2.e = 0))]) ∧ Below W.heap.size W w' := fun W p hW hk =>
  worked_any W x _ p 20000 (by omega) hKT hk (fun W' hW' => hit W' (hW.trans (hW'.mono hW.size))) R hR
 have hTx : ∀ W p, Below w.heap.size w W → KIn W x p → Calls Tryz.prog 22 #[.pointer (some ⟨p, 0, none⟩), .string ⟨#[]⟩] W fun v w' => v = .returned (.string src) ∧ Below W.heap.size W w' := fun W p hW hk => by
  have := htx p W hk (by simp at hplen; omega) (fun W' hW' => hit W' (hW.trans (hW'.mono hW.size)))
  rw [← hsrc] at this; exact this
 have hPl2 := fun W (hW : Below w.heap.size w W) => hPl W (Lib.tabBelow_of_tabIs htab W hW)
 have hRu2 := fun W (hW : Below w.heap.size w W) => hRu W (Lib.tabBelow_of_tabIs htab W hW)
 rcases hans with ⟨g1, rfl, rfl⟩ | ⟨g1, rfl, a, b, c, rfl⟩
 ·have hd : decide (R.2.e = 0) = false := by simp [g1]
  have hvR : evalV R = aggE ⟨#[]⟩ 0 0 0 0 := by
   unfold evalV
   rw [if_pos (by rw [g1]; decide)]; rfl
  rw [hvR, hd] at hWk
  exact Ended_walk ra rn rc w x src P ⟨#[]⟩ ⟨#[]⟩ 0 0 0 0 0 0 0 0 12 false (Or.inl ⟨rfl, rfl⟩) hbd hTx hPl2 hRu2 hWk
 ·have hd : decide (R.2.e = 0) = true := by simp [g1]
  have hvR : evalV R = aggE (bs R.1.txt) R.2.steps R.2.cells R.2.cells R.2.cells := by
   unfold evalV
   rw [if_neg (fun h => h g1)]; rfl
  rw [hvR, hd] at hWk
  exact Ended_walk ra rn rc w x src P (bs R.1.txt) (bs R.1.txt) R.2.steps R.2.cells R.2.cells R.2.cells a b c 0 0 true (Or.inr ⟨rfl, rfl, rfl, rfl⟩) hbd hTx hPl2 hRu2 hWk
end Go.Proofs.YtpicaknklgccoaaGreatDoor
