import Derived.Test.YtpicaknklgccoaaGreatDoorS1
import Derived.ArgAppend
import Derived.Laws.Tables
import Derived.BigRegion
import Derived.BigQuiet
import Derived.Deep.QuietTactic
import Derived.Lib.ItoaNum
import Derived.Deep.RegionHeld3
import Derived.Deep.CutRange
set_option maxHeartbeats 2000000
set_option maxRecDepth 100000
namespace Go.Proofs.YtpicaknklgccoaaGreatDoor
open Go.RowKit
theorem aa {w : World} {b : Nat} {arr : Array Value} {t : TypeId} {fr : Nat × Nat} (h : w.heap[b]? = some (.cells arr t fr)) (o : Nat) : w.cell? ⟨b, o, none⟩ = arr[o]? := by
 simp [World.cell?, h]
theorem ag {w : World} {b : Nat} {arr : Array Value} {t : TypeId} (h : w.heap[b]? = some (.cells arr t (0, 0))) (o : Nat) : w.frozen? ⟨b, o, none⟩ = false := by
 simp [World.frozen?, h]
theorem az {w : World} {b : Nat} {arr : Array Value} {t : TypeId} {fr : Nat × Nat} (h : w.heap[b]? = some (.cells arr t fr)) (o : Nat) (u : Value) : (w.setCell ⟨b, o, none⟩ u).heap[b]? = some (.cells (arr.setIfInBounds o u) t fr) := by
 simp [World.setCell, Array.getElem?_modify, h]
theorem ak {w : World} {b : Nat} (a : Addr) (u : Value) (hb : b ≠ a.block) : (w.setCell a u).heap[b]? = w.heap[b]? := Below.heap_setCell _ _ _ _ hb
theorem af {w : World} {b : Nat} {o : Obj} (h : w.heap[b]? = some o) : b < w.heap.size := by
 rcases Nat.lt_or_ge b w.heap.size with h1 | h1
 ·exact h1
 ·rw [Array.getElem?_eq_none h1] at h; cases h
theorem aL {w : World} {b : Nat} {x : Obj} (o : Obj) (h : w.heap[b]? = some x) : (w.alloc o).heap[b]? = some x := by
 rw [Below.heap_alloc _ _ _ (af h)]; exact h
theorem aj (w : World) (o : Obj) : (w.alloc o).heap[w.heap.size]? = some o := by
 show (w.heap.push o)[w.heap.size]? = _; simp
theorem cY {w : World} {base base' : Nat} {e : TypeId} {size : Nat} {v : Value} {n : Nat} {xs : List Value} (h : w.ownsRow base e size v n xs) (hb : ∀ k, v.ownBlock = some k -> base' <= k) : w.ownsRow base' e size v n xs := by
 obtain ⟨h1, h2⟩ := h
 refine ⟨h1, ?_⟩
 rcases h2 with h2 | ⟨g, cap, cur, hv, hg, hh, r⟩
 ·exact Or.inl h2
 ·exact Or.inr ⟨g, cap, cur, hv, hb g (by rw [hv]; rfl), hh, r⟩
theorem ax {w w' : World} {base : Nat} {e : TypeId} {size : Nat} {v : Value} {n : Nat} {xs : List Value} (h : w.ownsRow base e size v n xs) (hb : ∀ k, v.ownBlock = some k -> w'.heap[k]? = w.heap[k]?) : w'.ownsRow base e size v n xs := by
 obtain ⟨h1, h2⟩ := h
 refine ⟨h1, ?_⟩
 rcases h2 with h2 | ⟨g, cap, cur, hv, hg, hh, r⟩
 ·exact Or.inl h2
 ·exact Or.inr ⟨g, cap, cur, hv, hg, by rw [hb g (by rw [hv]; rfl)]; exact hh, r⟩
theorem oC {P : Program} (w : World) {ops : Array Oper} {rest : List Oper} {o : Oper} {a : Act} {Q : Exit -> Act -> World -> Prop} (hgd : o.guard = none)
  (s x : Operand) (t : TypeId) (ho : o.op = Op.call { callee := Callee.builtin Builtin.append, args := #[s, x], argTypes := #[t, t] }) (e : TypeId) (i : TypeInfo)
  (z : Value) (size bytes : Nat) (ht : P.underlying t = some (TypeDesc.slice e)) (hi : P.info? e = some i) (hz : i.zero = some z) (hsize : i.size = size) (hby : i.bytes = bytes)
  (hzs : z.cells.size = size) (hsz : 0 < size) (v : Value) (n : Nat) (xs : List Value) (hs : a.eval s = v) (hown : w.ownsRow 0 e size v n xs) (ad : Addr) (m c : Nat) (news : List Value)
  (hx : a.eval x = Value.slice (some ad) m c) (hl : news.length = m * size) (hnews : ∀ (j : Nat) (u : Value), news[j]? = some u -> w.cell? (ad.add j) = some u)
  (h1 : ∀ (u : Value), u ∈ news -> u.oneCell' = true) (hm : 0 < m) (h63 : n + m <= maxLen) (hbytes : (n + m) * bytes <= 140737488355328)
  (h : ∀ (g cap : Nat) (w' : World), w'.ownsRow 0 e size (.slice (some ⟨g, 0, none⟩) (n + m) cap) (n + m) (xs ++ news) -> w.grownBy w' v.ownBlock ->
   (v.ownBlock = some g \/ w.heap.size <= g) -> wpList P ops Q rest (a.put o.dst (.slice (some ⟨g, 0, none⟩) (n + m) cap)) w') :
  wpList P ops Q (o :: rest) a w := by
 have fin : ∀ (v' : Value) (w' : World), w'.ownsRow w.heap.size e size v' (n + m) (xs ++ news) -> w.grownBy w' none -> wpList P ops Q rest (a.put o.dst v') w' := by
  intro v' w' BV hg'
  obtain ⟨g, cap, hv'⟩ : ∃ g cap, v' = .slice (some ⟨g, 0, none⟩) (n + m) cap := by
   rcases BV.2 with ⟨_, hh⟩ | ⟨g, cap, cur, hv, _⟩
   ·omega
   ·exact ⟨_, _, hv⟩
  subst hv'
  have hlt := BV.lt g rfl
  exact h g cap w' (cY BV (fun k hk => Nat.zero_le _)) ⟨hg'.os, hg'.tape, hg'.output, hg'.size, fun k hk _ => hg'.block k hk (by simp)⟩ (Or.inr hlt.1)
 rcases hown.2 with ⟨hv, hn⟩ | ⟨g, cap, cur, hv, hg, hh, hn, hcm, hcs, htake⟩
 ·subst hn
  have hxs : xs = [] := List.length_eq_zero_iff.1 (by have := hown.1; omega)
  refine wpList_append_grows w hgd s x t ho e i z size bytes ht hi hz hsize hby hzs hsz none 0 0 xs (by rw [hs, hv]) (fun _ => ⟨rfl, rfl⟩) hown.1 (fun b hb => by cases hb) ad m c news hx hl hnews h1 (by omega) h63 hbytes fin
 ·by_cases hroom : n + m <= cap
  ·refine wpList_append_fits w hgd s x t ho 0 e i size ht hi hsize g n cap xs (by rw [hs, hv]) (by rw [hv] at hown; exact hown) ad m c news hx hl hnews h1 hroom ?_
   intro w' BV hg'
   exact h g cap w' BV (by rw [hv]; exact hg') (Or.inl (by rw [hv]; rfl))
  ·refine wpList_append_grows w hgd s x t ho e i z size bytes ht hi hz hsize hby hzs hsz (some ⟨g, 0, none⟩) n cap xs (by rw [hs, hv]) (fun hh => by cases hh) hown.1 ?_ ad m c news hx hl hnews h1 (by omega) h63 hbytes fin
   intro b hb j u hj
   simp only [Option.some.injEq] at hb
   subst hb
   exact hown.cells (by rw [hv]; rfl) j u hj
def ptr (b : Nat) : Value := .pointer (some ⟨b, 0, none⟩)
theorem yL (ts : List PT) (t : PT) : aB (ts ++ [t]) = aB ts + t.cnt := by
 induction ts with
 | nil => simp [aB]
 | cons a r ih => simp [aB, ih]; omega
theorem jb {P : Program} {ops : Array Oper} {rest : List Oper} {o : Oper} {a : Act} {w : World} {Q : Exit -> Act -> World -> Prop} (hgd : o.guard = none) (ty : TypeId) (x y : Operand) (ho : o.op = .store ty x y)
  (g : Nat) (cells : Array Value) (hx : a.eval x = .pointer (some ⟨g, 0, none⟩)) (hy : a.eval y = .agg cells)
  (t : TypeId) (old : Array Value) (hg : w.heap[g]? = some (.cells old t (0, 0))) (hi : (P.info? ty).map (·.size) = some cells.size)
  (hold : old.size = cells.size) (h1 : cells.all (·.oneCell') = true)
  (h : ∀ W : World, W.heap[g]? = some (.cells cells t (0, 0)) -> W.heap.size = w.heap.size -> (∀ k, k ≠ g -> W.heap[k]? = w.heap[k]?) -> W.os = w.os -> W.tape = w.tape -> W.output = w.output ->
   wpList P ops Q rest (a.put o.dst undef) W) : wpList P ops Q (o :: rest) a w := by
 refine wpList_store_row hgd ty x y ho g cells hx hy t old hg hi hold h1 ?_
 exact h _ (setRow_heap w g old cells t (0, 0) hg) (by simp) (fun k hk => setRow_other w g k cells hk) rfl rfl rfl
theorem eX {B g : Nat} {w0 w W : World} (hb : Below B w0 w) (hg : B <= g) (hs : W.heap.size = w.heap.size) (ho : ∀ k, k ≠ g -> W.heap[k]? = w.heap[k]?) (e1 : W.os = w.os) (e2 : W.tape = w.tape) (e3 : W.output = w.output) : Below B w0 W :=
 ⟨e1.trans hb.os, e2.trans hb.tape, e3.trans hb.output, by rw [hs]; exact hb.size, fun k hk => by rw [ho k (by omega)]; exact hb.block k hk⟩
theorem Tryz.sN : (Tryz.prog.info? 208).map (·.size) = some 5 := by kernel_rfl
theorem sO (T : TN) : (#[Value.int .i64 T.kind, .int .i64 T.at_, .int .i64 T.aO, .string (bs T.word), .int .i64 T.num] : Array Value).all (·.oneCell') = true := by simp [Value.oneCell']
theorem H7 (s : ByteArray) (k : Nat) (hk : k < s.size) (h : dY s[k] = true) : fS s.data.toList k = fS s.data.toList (k + 1) := by
 unfold fS; rw [dE]; exact ug s k hk h
theorem FN (s : ByteArray) (k : Nat) (hk : k < s.size) (h : dY s[k] = false) : fS s.data.toList k = jP s k :: fS s.data.toList (k + (aJ (s.data.toList.drop k)).1) := by
 unfold fS; rw [dE]; exact xQ s k hk h
theorem uL (s : ByteArray) (k : Nat) (hk : s.size <= k) : fS s.data.toList k = [] := by
 unfold fS; rw [dE, show s.size - k = 0 from by omega]; rfl
theorem BW (s : ByteArray) : ∀ (m a : Nat), s.size - a <= m -> fS s.data.toList (a + uh (s.data.toList.drop a)) = fS s.data.toList a /\ (∀ h : a + uh (s.data.toList.drop a) < s.size, dY (s[a + uh (s.data.toList.drop a)]) = false) := by
 intro m
 induction m with
 | zero =>
  intro a h
  have : uh (s.data.toList.drop a) = 0 := by rw [qY s a (by omega)]; rfl
  rw [this]; exact ⟨rfl, fun h' => by omega⟩
 | succ m ih =>
  intro a h
  by_cases hlt : a < s.size
  ·cases hb : dY s[a] with
   | true =>
    have e : a + uh (s.data.toList.drop a) = (a + 1) + uh (s.data.toList.drop (a + 1)) := by rw [drop_cons s a hlt]; simp [uh, hb]; omega
    obtain ⟨h1, h2⟩ := ih (a + 1) (by omega)
    refine ⟨?_, ?_⟩
    ·rw [e, h1, H7 s a hlt hb]
    ·simp only [e]; exact h2
   | false =>
    have e : uh (s.data.toList.drop a) = 0 := by rw [drop_cons s a hlt]; simp [uh, hb]
    refine ⟨by rw [e, Nat.add_zero], ?_⟩
    simp only [e, Nat.add_zero]
    intro _; exact hb
  ·have : uh (s.data.toList.drop a) = 0 := by rw [qY s a (by omega)]; rfl
   rw [this]; exact ⟨rfl, fun h' => by omega⟩
theorem FO (s : ByteArray) (p : Nat) (hp : p < s.size) : gA (jP s p) = ⟨bE (aJ (s.data.toList.drop p)).2, p, p + (aJ (s.data.toList.drop p)).1, tG (jP s p), Bg (jP s p)⟩ := by
 unfold gA; rw [Be s p hp]; rfl
theorem nR (s : ByteArray) (p : Nat) (lo hi : Int) (hp : p < s.size) (h : j7 lo hi s[p] = false) : run lo hi (s.data.toList.drop p) = 0 := by
 rw [drop_cons s p hp]; simp [run, h]
theorem FP (s : ByteArray) (p : Nat) (lo hi : Int) (hp : p < s.size) (h : j7 lo hi s[p] = true) : 0 < run lo hi (s.data.toList.drop p) := by
 rw [drop_cons s p hp]; simp [run, h]
theorem H9 (s : ByteArray) (p : Nat) (hp : p < s.size) (hl : j7 97 122 s[p] = false) (hd : j7 48 57 s[p] = false) (zZ : s[p] ≠ 35) :
  aJ (s.data.toList.drop p) = (1, if s[p] = 40 then .opn else if s[p] = 41 then .cls else .bad) := by
 unfold aJ
 rw [nR s p 97 122 hp hl, nR s p 48 57 hp hd, if_neg (by omega), if_neg (by omega), drop_cons s p hp]
 simp only
 rw [if_neg zZ]
theorem Ky (s : ByteArray) (p : Nat) (hp : p < s.size) (hl : j7 97 122 s[p] = false) (hd : j7 48 57 s[p] = false) (zZ : s[p] ≠ 35) :
  gA (jP s p) = ⟨if s[p] = 40 then 2 else if s[p] = 41 then 3 else 1, p, p + 1, [], 0⟩ := by
 have h := H9 s p hp hl hd zZ
 rw [FO s p hp]
 unfold tG Bg jP
 rw [h]
 by_cases Oc : s[p] = 40
 ·simp [Oc, bE]
 ·by_cases Od : s[p] = 41
  ·simp [Od, bE]
  ·simp [Oc, Od, bE]
theorem Oe (s : ByteArray) (p n : Nat) (hp : p < s.size) (hn : n = run 97 122 (s.data.toList.drop p)) (h0 : 0 < n) :
  gA (jP s p) = ⟨bE (dX ((s.data.toList.drop p).take n) n), p, p + n, if n <= 8 then (s.data.toList.drop p).take n else [], 0⟩ := by
 have h : aJ (s.data.toList.drop p) = (n, dX ((s.data.toList.drop p).take n) n) := by unfold aJ; rw [<- hn, if_pos h0]
 have hlen : ((s.data.toList.drop p).take n).length = n := by
  have := pQ 97 122 (s.data.toList.drop p)
  rw [List.length_take]; omega
 rw [FO s p hp]
 unfold tG Bg jP
 rw [h]
 simp only
 by_cases h8 : n <= 8
 ·rw [if_pos h8]
  unfold dX
  cases uf ((s.data.toList.drop p).take n) with
  | some k => rfl
  | none => simp [h8]
 ·rw [if_neg h8]
  have := vk ((s.data.toList.drop p).take n) (by omega)
  rw [hlen] at this
  rw [this]
theorem RR (s : ByteArray) (p n : Nat) (hp : p < s.size) (hl : j7 97 122 s[p] = false) (hn : n = run 48 57 (s.data.toList.drop p)) (h0 : 0 < n) :
  gA (jP s p) = kD (s.data.toList.drop p) 4 5 p p n := by
 have h : aJ (s.data.toList.drop p) = (n, if bY ((s.data.toList.drop p).take n) 4 then .num else .bad) := by
  unfold aJ; rw [nR s p 97 122 hp hl, if_neg (by omega), <- hn, if_pos h0]
 rw [FO s p hp]
 unfold tG Bg jP kD
 rw [h]
 simp only
 cases bY ((s.data.toList.drop p).take n) 4 with
 | true => simp [bE]
 | false => simp [bE]
theorem BX (l : List UInt8) : au (35 :: l) = au l := by unfold au; simp
theorem RS (s : ByteArray) (p n : Nat) (hp : p < s.size) (zZ : s[p] = 35) (hn : n = run 48 57 (s.data.toList.drop (p + 1))) :
  gA (jP s p) = kD (s.data.toList.drop (p + 1)) 3 6 p (p + 1) n := by
 have hl : j7 97 122 s[p] = false := by rw [zZ]; decide
 have hd : j7 48 57 s[p] = false := by rw [zZ]; decide
 have h : aJ (s.data.toList.drop p) = (n + 1, if bY ((s.data.toList.drop (p + 1)).take n) 3 then .Ft else .bad) := by
  unfold aJ
  rw [nR s p 97 122 hp hl, nR s p 48 57 hp hd, if_neg (by omega), if_neg (by omega), drop_cons s p hp]
  simp only
  rw [if_pos zZ, <- hn]
 rw [FO s p hp]
 unfold tG Bg jP kD
 rw [h]
 simp only
 have ht : (s.data.toList.drop p).take (n + 1) = 35 :: (s.data.toList.drop (p + 1)).take n := by rw [drop_cons s p hp, List.take_succ_cons, zZ]
 rw [ht]
 cases bY ((s.data.toList.drop (p + 1)).take n) 3 with
 | true => simp [bE, BX]; omega
 | false => simp [bE]; omega
theorem Kz (s : ByteArray) (a : Nat) (w : World) (hs : s.size <= 9000) (ha : a <= s.size) :
  Calls Tryz.prog 182 #[.string s, .int .i64 a] w fun e w' => e = .returned (gV (eM s.size (fS s.data.toList a))) /\ Below w.heap.size w w' := by
 obtain ⟨VE, VF⟩ := BW s s.size a (by omega)
 have lg := JK (s.data.toList.drop a)
 rw [List.length_drop, dE] at lg
 have BZ := fun w => vh s a w hs ha
 rw [<- VE]
 obtain ⟨p, hp⟩ : ∃ p, p = a + uh (s.data.toList.drop a) := ⟨_, rfl⟩
 have hps : p <= s.size := by omega
 have RT : ∀ h : p < s.size, dY s[p] = false := by subst hp; exact VF
 clear VF
 rw [<- hp] at BZ ⊢
 clear hp lg VE
 have hby := fun w => kC s p w (by omega)
 by_cases hlt : p < s.size
 ·have hb := RT hlt
  clear RT
  have htk : eM s.size (fS s.data.toList p) = gA (jP s p) := by rw [FN s p hlt hb]; rfl
  rw [htk]
  clear htk hb
  rw [vg s p hlt] at hby
  have hle := fun w => qZ s[p] w
  have T9 := fun w => tI s[p] w
  have Qo : ((s[p].toNat : Int) == 40) = (s[p] == 40) := ou s[p] 40
  have Og : ((s[p].toNat : Int) == 41) = (s[p] == 41) := ou s[p] 41
  have Ue : ((s[p].toNat : Int) == 35) = (s[p] == 35) := ou s[p] 35
  cases hL : j7 97 122 s[p] with
  | true =>
   have d40 : ((s[p].toNat : Int) == 40) = false := by
    rw [beq_eq_false_iff_ne]; unfold j7 at hL; simp only [Bool.and_eq_true, decide_eq_true_eq] at hL; omega
   have d41 : ((s[p].toNat : Int) == 41) = false := by
    rw [beq_eq_false_iff_ne]; unfold j7 at hL; simp only [Bool.and_eq_true, decide_eq_true_eq] at hL; omega
   obtain ⟨n, hn⟩ : ∃ n, n = run 97 122 (s.data.toList.drop p) := ⟨_, rfl⟩
   have h0 : 0 < n := by rw [hn]; exact FP s p 97 122 hlt hL
   have hrl := pQ 97 122 (s.data.toList.drop p)
   rw [List.length_drop, dE, <- hn] at hrl
   have fL := fun w => zK s p n w hs hn (by omega)
   rw [<- Oe s p n hlt hn h0] at fL
   rw [hL] at hle
   generalize gA (jP s p) = T at fL
   unfold gV at fL
   clear Qo Og Ue hL hn h0 hrl
   go_enter Tryz.func182, Tryz.ntmps182
   go_wp2_with (first
    | (go_at_call 191; refine (BZ _).mono ?_; rintro e w' ⟨rfl, rfl⟩)
    | (go_at_call 192; refine (hby _).mono ?_; rintro e w' ⟨rfl, rfl⟩)
    | (go_at_call 193; refine (hle _).mono ?_; rintro e w' ⟨rfl, rfl⟩)
    | (go_at_call 195; refine (T9 _).mono ?_; rintro e w' ⟨rfl, rfl⟩))
   refine (fL _).mono ?_
   rintro e w1 ⟨rfl, hb1⟩
   have hgb : w1.heap[w.heap.size]? = some (.cells #[.int .i64 0, .int .i64 0, .int .i64 0, .string ⟨#[]⟩, .int .i64 0] 208 (0, 0)) := by
    rw [hb1.block w.heap.size (by simp)]; exact aj _ _
   go_wp2_with (refine jb rfl 208 (.tmp 4) (.tmp 41) rfl w.heap.size #[.int .i64 T.kind, .int .i64 T.at_, .int .i64 T.aO, .string (bs T.word), .int .i64 T.num] rfl rfl 208 _ hgb Tryz.sN rfl (sO T) ?_; intro W hW lh mg hW1 hW2 hW3)
   have c0 : W.cell? ⟨w.heap.size, 0, none⟩ = some (.int .i64 T.kind) := by rw [aa hW]; rfl
   have c1 : W.cell? ⟨w.heap.size, 1, none⟩ = some (.int .i64 T.at_) := by rw [aa hW]; rfl
   have c2 : W.cell? ⟨w.heap.size, 2, none⟩ = some (.int .i64 T.aO) := by rw [aa hW]; rfl
   have c3 : W.cell? ⟨w.heap.size, 3, none⟩ = some (.string (bs T.word)) := by rw [aa hW]; rfl
   have c4 : W.cell? ⟨w.heap.size, 4, none⟩ = some (.int .i64 T.num) := by rw [aa hW]; rfl
   have hBW : Below w.heap.size w W := eX (((Below.refl _ w).alloc (Nat.le_refl _) _).trans (hb1.mono (by simp))) (Nat.le_refl _) lh mg hW1 hW2 hW3
   have xK : Hid _ := hBW
   clear hW lh mg hW1 hW2 hW3 hb1 hBW
   refine bodyPost_ret (v := .agg #[.int .i64 T.kind, .int .i64 T.at_, .int .i64 T.aO, .string (bs T.word), .int .i64 T.num]) (by simp [results, Tryz.results182, go_sem, c0, c1, c2, c3, c4]) rfl ⟨rfl, xK.out⟩
  | false =>
   rw [hL] at hle
   cases hD : j7 48 57 s[p] with
   | true =>
    have d40 : ((s[p].toNat : Int) == 40) = false := by
     rw [beq_eq_false_iff_ne]; unfold j7 at hD; simp only [Bool.and_eq_true, decide_eq_true_eq] at hD; omega
    have d41 : ((s[p].toNat : Int) == 41) = false := by
     rw [beq_eq_false_iff_ne]; unfold j7 at hD; simp only [Bool.and_eq_true, decide_eq_true_eq] at hD; omega
    obtain ⟨n, hn⟩ : ∃ n, n = run 48 57 (s.data.toList.drop p) := ⟨_, rfl⟩
    have h0 : 0 < n := by rw [hn]; exact FP s p 48 57 hlt hD
    have hrl := pQ 48 57 (s.data.toList.drop p)
    rw [List.length_drop, dE, <- hn] at hrl
    have qR := fun w => nH s p p n 4 5 w hs hn (by omega) (by omega)
    rw [<- RR s p n hlt hL hn h0] at qR
    rw [hD] at T9
    generalize gA (jP s p) = T at qR
    unfold gV at qR
    clear Qo Og Ue hL hD hn h0 hrl
    go_enter Tryz.func182, Tryz.ntmps182
    go_wp2_with (first
     | (go_at_call 191; refine (BZ _).mono ?_; rintro e w' ⟨rfl, rfl⟩)
     | (go_at_call 192; refine (hby _).mono ?_; rintro e w' ⟨rfl, rfl⟩)
     | (go_at_call 193; refine (hle _).mono ?_; rintro e w' ⟨rfl, rfl⟩)
     | (go_at_call 195; refine (T9 _).mono ?_; rintro e w' ⟨rfl, rfl⟩))
    refine (qR _).mono ?_
    rintro e w1 ⟨rfl, hb1⟩
    have hgb : w1.heap[w.heap.size]? = some (.cells #[.int .i64 0, .int .i64 0, .int .i64 0, .string ⟨#[]⟩, .int .i64 0] 208 (0, 0)) := by
     rw [hb1.block w.heap.size (by simp)]; exact aj _ _
    go_wp2_with (refine jb rfl 208 (.tmp 4) (.tmp 48) rfl w.heap.size #[.int .i64 T.kind, .int .i64 T.at_, .int .i64 T.aO, .string (bs T.word), .int .i64 T.num] rfl rfl 208 _ hgb Tryz.sN rfl (sO T) ?_; intro W hW lh mg hW1 hW2 hW3)
    have c0 : W.cell? ⟨w.heap.size, 0, none⟩ = some (.int .i64 T.kind) := by rw [aa hW]; rfl
    have c1 : W.cell? ⟨w.heap.size, 1, none⟩ = some (.int .i64 T.at_) := by rw [aa hW]; rfl
    have c2 : W.cell? ⟨w.heap.size, 2, none⟩ = some (.int .i64 T.aO) := by rw [aa hW]; rfl
    have c3 : W.cell? ⟨w.heap.size, 3, none⟩ = some (.string (bs T.word)) := by rw [aa hW]; rfl
    have c4 : W.cell? ⟨w.heap.size, 4, none⟩ = some (.int .i64 T.num) := by rw [aa hW]; rfl
    have hBW : Below w.heap.size w W := eX (((Below.refl _ w).alloc (Nat.le_refl _) _).trans (hb1.mono (by simp))) (Nat.le_refl _) lh mg hW1 hW2 hW3
    have xK : Hid _ := hBW
    clear hW lh mg hW1 hW2 hW3 hb1 hBW
    refine bodyPost_ret (v := .agg #[.int .i64 T.kind, .int .i64 T.at_, .int .i64 T.aO, .string (bs T.word), .int .i64 T.num]) (by simp [results, Tryz.results182, go_sem, c0, c1, c2, c3, c4]) rfl ⟨rfl, xK.out⟩
   | false =>
    rw [hD] at T9
    by_cases zZ : s[p] = 35
    ·have d35 : ((s[p].toNat : Int) == 35) = true := by rw [Ue]; simpa using zZ
     have d40 : ((s[p].toNat : Int) == 40) = false := by rw [Qo, zZ]; rfl
     have d41 : ((s[p].toNat : Int) == 41) = false := by rw [Og, zZ]; rfl
     obtain ⟨n, hn⟩ : ∃ n, n = run 48 57 (s.data.toList.drop (p + 1)) := ⟨_, rfl⟩
     have hrl := pQ 48 57 (s.data.toList.drop (p + 1))
     rw [List.length_drop, dE, <- hn] at hrl
     have qR := fun w => nH s p (p + 1) n 3 6 w hs hn (by omega) (by omega)
     rw [<- RS s p n hlt zZ hn] at qR
     generalize gA (jP s p) = T at qR
     unfold gV at qR
     rw [Int.natCast_add] at qR
     clear Qo Og Ue hL hD hn hrl zZ
     go_enter Tryz.func182, Tryz.ntmps182
     go_wp2_with (first
      | (go_at_call 191; refine (BZ _).mono ?_; rintro e w' ⟨rfl, rfl⟩)
      | (go_at_call 192; refine (hby _).mono ?_; rintro e w' ⟨rfl, rfl⟩)
      | (go_at_call 193; refine (hle _).mono ?_; rintro e w' ⟨rfl, rfl⟩)
      | (go_at_call 195; refine (T9 _).mono ?_; rintro e w' ⟨rfl, rfl⟩))
     refine (qR _).mono ?_
     rintro e w1 ⟨rfl, hb1⟩
     have hgb : w1.heap[w.heap.size]? = some (.cells #[.int .i64 0, .int .i64 0, .int .i64 0, .string ⟨#[]⟩, .int .i64 0] 208 (0, 0)) := by
      rw [hb1.block w.heap.size (by simp)]; exact aj _ _
     go_wp2_with (refine jb rfl 208 (.tmp 4) (.tmp 56) rfl w.heap.size #[.int .i64 T.kind, .int .i64 T.at_, .int .i64 T.aO, .string (bs T.word), .int .i64 T.num] rfl rfl 208 _ hgb Tryz.sN rfl (sO T) ?_; intro W hW lh mg hW1 hW2 hW3)
     have c0 : W.cell? ⟨w.heap.size, 0, none⟩ = some (.int .i64 T.kind) := by rw [aa hW]; rfl
     have c1 : W.cell? ⟨w.heap.size, 1, none⟩ = some (.int .i64 T.at_) := by rw [aa hW]; rfl
     have c2 : W.cell? ⟨w.heap.size, 2, none⟩ = some (.int .i64 T.aO) := by rw [aa hW]; rfl
     have c3 : W.cell? ⟨w.heap.size, 3, none⟩ = some (.string (bs T.word)) := by rw [aa hW]; rfl
     have c4 : W.cell? ⟨w.heap.size, 4, none⟩ = some (.int .i64 T.num) := by rw [aa hW]; rfl
     have hBW : Below w.heap.size w W := eX (((Below.refl _ w).alloc (Nat.le_refl _) _).trans (hb1.mono (by simp))) (Nat.le_refl _) lh mg hW1 hW2 hW3
     have xK : Hid _ := hBW
     clear hW lh mg hW1 hW2 hW3 hb1 hBW
     refine bodyPost_ret (v := .agg #[.int .i64 T.kind, .int .i64 T.at_, .int .i64 T.aO, .string (bs T.word), .int .i64 T.num]) (by simp [results, Tryz.results182, go_sem, c0, c1, c2, c3, c4]) rfl ⟨rfl, xK.out⟩
    ·have d35 : ((s[p].toNat : Int) == 35) = false := by rw [Ue]; simpa using zZ
     have htn := Ky s p hlt hL hD zZ
     rw [htn]
     clear htn Ue hL hD zZ
     by_cases Oc : s[p] = 40
     ·have d40 : ((s[p].toNat : Int) == 40) = true := by rw [Qo]; simpa using Oc
      have RU : Hid _ := Oc
      clear Oc Qo Og
      go_enter Tryz.func182, Tryz.ntmps182
      go_wp2_with (first
       | (go_at_call 191; refine (BZ _).mono ?_; rintro e w' ⟨rfl, rfl⟩)
       | (go_at_call 192; refine (hby _).mono ?_; rintro e w' ⟨rfl, rfl⟩))
      refine bodyPost_ret (v := .agg #[.int .i64 2, .int .i64 p, .int .i64 ((p : Int) + 1), .string ⟨#[]⟩, .int .i64 0]) (by simp [results, Tryz.results182, go_sem]) rfl ⟨?_, (Below.refl _ _).alloc (Nat.le_refl _) _⟩
      first | rfl | (simp only [if_pos RU.out]; rfl) | (unfold gV; simp only [if_pos RU.out]; rfl)
     ·have d40 : ((s[p].toNat : Int) == 40) = false := by rw [Qo]; simpa using Oc
      have RU : Hid _ := Oc
      clear Oc Qo
      by_cases Od : s[p] = 41
      ·have d41 : ((s[p].toNat : Int) == 41) = true := by rw [Og]; simpa using Od
       have VG : Hid _ := Od
       clear Od Og
       go_enter Tryz.func182, Tryz.ntmps182
       go_wp2_with (first
        | (go_at_call 191; refine (BZ _).mono ?_; rintro e w' ⟨rfl, rfl⟩)
        | (go_at_call 192; refine (hby _).mono ?_; rintro e w' ⟨rfl, rfl⟩))
       refine bodyPost_ret (v := .agg #[.int .i64 3, .int .i64 p, .int .i64 ((p : Int) + 1), .string ⟨#[]⟩, .int .i64 0]) (by simp [results, Tryz.results182, go_sem]) rfl ⟨?_, (Below.refl _ _).alloc (Nat.le_refl _) _⟩
       first | rfl | (simp only [if_neg RU.out, if_pos VG.out]; rfl) | (unfold gV; simp only [if_neg RU.out, if_pos VG.out]; rfl)
      ·have d41 : ((s[p].toNat : Int) == 41) = false := by rw [Og]; simpa using Od
       have VG : Hid _ := Od
       clear Od Og
       go_enter Tryz.func182, Tryz.ntmps182
       go_wp2_with (first
        | (go_at_call 191; refine (BZ _).mono ?_; rintro e w' ⟨rfl, rfl⟩)
        | (go_at_call 192; refine (hby _).mono ?_; rintro e w' ⟨rfl, rfl⟩)
        | (go_at_call 193; refine (hle _).mono ?_; rintro e w' ⟨rfl, rfl⟩)
        | (go_at_call 195; refine (T9 _).mono ?_; rintro e w' ⟨rfl, rfl⟩))
       refine bodyPost_ret (v := .agg #[.int .i64 1, .int .i64 p, .int .i64 ((p : Int) + 1), .string ⟨#[]⟩, .int .i64 0]) (by simp [results, Tryz.results182, go_sem]) rfl ⟨?_, (Below.refl _ _).alloc (Nat.le_refl _) _⟩
       first | rfl | (simp only [if_neg RU.out, if_neg VG.out]; rfl) | (unfold gV; simp only [if_neg RU.out, if_neg VG.out]; rfl)
 ·have htk : fS s.data.toList p = [] := uL s p (by omega)
  rw [htk]
  clear htk RT
  go_enter Tryz.func182, Tryz.ntmps182
  go_wp2_with (go_at_call 191; refine (BZ _).mono ?_; rintro e w' ⟨rfl, rfl⟩)
  refine bodyPost_ret (v := .agg #[.int .i64 0, .int .i64 s.size, .int .i64 s.size, .string ⟨#[]⟩, .int .i64 0]) (by simp [results, Tryz.results182, go_sem]) rfl ⟨rfl, (Below.refl _ _).alloc (Nat.le_refl _) _⟩
structure Gr (pE : PS -> Int × PS) (st : PS) : Prop where
 sc : (pE st).2.scope = st.scope
 l : (pE st).2.l.length <= st.l.length
 nd : (pE st).2.nodes.length + (pE st).2.l.length <= st.nodes.length + st.l.length
 op : (pE st).2.opened.length + 4 * (pE st).2.l.length <= st.opened.length + 4 * st.l.length + 1
 up : st.opened.length <= (pE st).2.opened.length
def jK (pE : PS -> Int × PS) (m : Nat) : Prop := ∀ st : PS, st.l.length <= m -> Gr pE st
structure Gs (a b : PS) (j n : Nat) : Prop where
 sc : b.scope = a.scope
 l : b.l.length <= a.l.length
 nd : b.nodes.length + b.l.length <= a.nodes.length + a.l.length + n
 op : b.opened.length + 4 * b.l.length <= a.opened.length + 4 * a.l.length + j
 up : a.opened.length <= b.opened.length
theorem Gs.refl (a : PS) : Gs a a 0 0 := ⟨rfl, Nat.le_refl _, Nat.le_refl _, Nat.le_refl _, Nat.le_refl _⟩
theorem Gs.trans {a b c : PS} {i j n m : Nat} (h : Gs a b i n) (h' : Gs b c j m) : Gs a c (i + j) (n + m) :=
 ⟨h'.sc.trans h.sc, by have := h.l; have := h'.l; omega, by have := h.nd; have := h'.nd; omega, by have := h.op; have := h'.op; omega, by have := h.up; have := h'.up; omega⟩
theorem mA (st : PS) : Gs st st.tail 0 0 := by
 refine ⟨rfl, nG st, ?_, ?_, Nat.le_refl _⟩
 ·have := nG st; simp only [PS.tail] at this ⊢; omega
 ·have := nG st; simp only [PS.tail] at this ⊢; omega
theorem uM (a : Nat) (st : PS) : Gs st (st.fail a) 0 0 := by
 unfold PS.fail
 split
 ·exact Gs.refl _
 ·exact ⟨rfl, by simp, by simp, by simp, Nat.le_refl _⟩
theorem gJ (len k : Nat) (st : PS) : Gs st (st.expect len k) 0 0 := by
 unfold PS.expect
 split
 ·exact (mA st).trans (uM _ _)
 ·exact mA st
theorem rD {pE : PS -> Int × PS} {m : Nat} (h : jK pE m) (st : PS) (hl : st.l.length <= m) : Gs st (pE st).2 1 0 :=
 have g := h st hl
 ⟨g.sc, g.l, g.nd, g.op, g.up⟩
theorem FQ {pE : PS -> Int × PS} {m : Nat} (h : jK pE m) (w : List UInt8) (src : Int) (st : PS) (hl : st.l.length <= m) : Gs st (eO pE w src st).2 1 0 := by
 have g := h { st with scope := st.scope ++ [(w, src)] } hl
 refine ⟨?_, g.l, g.nd, g.op, g.up⟩
 unfold eO
 simp only [g.sc, List.dropLast_concat]
theorem uN {pE : PS -> Int × PS} {m : Nat} (h : jK pE m) (n : NR) (st : PS) (hl : st.l.length <= m) : Gs st (u7 pE n st).2 1 0 := rD h st hl
theorem rE {pE : PS -> Int × PS} {m : Nat} (h : jK pE m) (n : NR) (st : PS) (hl : st.l.length <= m) : Gs st (tH pE n st).2 2 0 :=
 have g := uN h n st hl
 g.trans (rD h _ (Nat.le_trans g.l hl))
theorem Oh {pE : PS -> Int × PS} {m : Nat} (h : jK pE m) (n : NR) (st : PS) (hl : st.l.length <= m) : Gs st (Bh pE n st).2 3 0 :=
 have g := rE h n st hl
 g.trans (rD h _ (Nat.le_trans g.l hl))
theorem RW {pE : PS -> Int × PS} {m : Nat} (h : jK pE m) (len : Nat) (n : NR) (st : PS) (hl : st.l.length <= m) : Gs st (Nu len pE n st).2 2 0 := by
 have g1 := gJ len 4 st
 have g2 := rD h (st.expect len 4) (Nat.le_trans g1.l hl)
 have g3 := FQ h (eM len st.l).word (pE (st.expect len 4)).1 (pE (st.expect len 4)).2 (by have := g1.l; have := g2.l; omega)
 exact (g1.trans g2).trans g3
theorem Oi {pE : PS -> Int × PS} {m : Nat} (h : jK pE m) (len : Nat) (n : NR) (st : PS) (hl : st.l.length <= m) : Gs st (Fw len pE n st).2 3 0 := by
 have g0 := rD h st hl
 have g1 := gJ len 4 (pE st).2
 have g2 := rD h ((pE st).2.expect len 4) (by have := g0.l; have := g1.l; omega)
 have g3 := FQ h (eM len (pE st).2.l).word (pE ((pE st).2.expect len 4)).1 (pE ((pE st).2.expect len 4)).2 (by have := g0.l; have := g1.l; have := g2.l; omega)
 exact ((g0.trans g1).trans g2).trans g3
theorem Gs.le {a b : PS} {j j' n n' : Nat} (h : Gs a b j n) (hj : j <= j') (hn : n <= n') : Gs a b j' n' := ⟨h.sc, h.l, by have := h.nd; omega, by have := h.op; omega, h.up⟩
theorem FR {pE : PS -> Int × PS} {m : Nat} (h : jK pE m) (ae : Bool) (len : Nat) (n : NR) (st : PS) (hl : st.l.length <= m) : Gs st (nF ae len pE n st).2 3 0 := by
 have hr : Gs st (jR len n st).2 0 0 := gJ len 6 st
 have hrl := hr.l
 unfold nF
 split
 ·exact (RW h len n st hl).le (by omega) (by omega)
 split
 ·exact Oi h len n st hl
 split
 ·split
  ·exact (hr.trans (rE h _ _ (by omega))).le (by omega) (by omega)
  ·exact (rE h n st hl).le (by omega) (by omega)
 split
 ·exact (hr.trans (uN h _ _ (by omega))).le (by omega) (by omega)
 split
 ·exact (uN h n st hl).le (by omega) (by omega)
 split
 ·exact Oh h n st hl
 ·exact (rE h n st hl).le (by omega) (by omega)
theorem RX (n : NR) (st : PS) : Gs st (st.add n) 0 1 := ⟨rfl, Nat.le_refl _, by simp [PS.add]; omega, Nat.le_refl _, Nat.le_refl _⟩
theorem vV {pE : PS -> Int × PS} {m : Nat} (h : jK pE m) (ae : Bool) (len : Nat) (n : NR) (st : PS) (hl : st.l.length <= m) : Gs st (gj ae len pE n st).2 3 1 := by
 have ht := mA st
 have htl := ht.l
 unfold gj
 simp only
 split
 ·exact (ht.trans (uM _ _)).le (by omega) (by omega)
 ·have h1 := FR h ae len { n with form := cG (eM len st.l).kind } st.tail (by omega)
  exact ((ht.trans h1).trans (gJ len 3 _)).trans (RX _ _)
theorem Ag {pB : NR -> PS -> Int × PS} (len : Nat) (st : PS) (h : ∀ n, st.l ≠ [] -> Gs st.tail (pB n st.tail).2 3 1) :
  (gT len pB st).2.scope = st.scope /\ (gT len pB st).2.l.length <= st.l.length /\ (gT len pB st).2.nodes.length + (gT len pB st).2.l.length <= st.nodes.length + st.l.length /\
   (gT len pB st).2.opened.length + 4 * (gT len pB st).2.l.length <= st.opened.length + 4 * st.l.length /\ st.opened.length <= (gT len pB st).2.opened.length := by
 cases hl : st.l with
 | nil =>
  have e : gT len pB st = (-1, st.tail.fail len) := by simp [gT, hl, eM]
  rw [e]
  have g := (mA st).trans (uM len st.tail)
  have g1 := g.sc; have g2 := g.l; have g3 := g.nd; have g4 := g.op; have g5 := g.up
  rw [hl] at g2 g3 g4
  exact ⟨g1, g2, by omega, by omega, g5⟩
 | cons t r =>
  have ht : st.tail.l = r := by simp [PS.tail, hl]
  unfold gT
  rw [hl]
  simp only [List.length_cons]
  split
  ·refine ⟨rfl, ?_, ?_, ?_, Nat.le_refl _⟩ <;> simp only [PS.add, PS.tail, hl, List.tail_cons, List.length_append, List.length_cons, List.length_nil] <;> omega
  split
  ·refine ⟨rfl, ?_, ?_, ?_, Nat.le_refl _⟩ <;> simp only [PS.add, PS.tail, hl, List.tail_cons, List.length_append, List.length_cons, List.length_nil] <;> omega
  split
  ·have g := h (iP (eM len (t :: r))) (by rw [hl]; simp)
   have g1 := g.sc; have g2 := g.l; have g3 := g.nd; have g4 := g.op; have g5 := g.up
   rw [ht] at g2 g3 g4
   have e1 : st.tail.nodes = st.nodes := rfl
   have e2 : st.tail.opened = st.opened := rfl
   rw [e1] at g3
   rw [e2] at g4 g5
   refine ⟨g1, ?_, ?_, ?_, g5⟩ <;> omega
  ·have g := (mA st).trans (uM (eM len (t :: r)).at_ st.tail)
   have g1 := g.sc; have g2 := g.l; have g3 := g.nd; have g4 := g.op; have g5 := g.up
   rw [hl] at g2 g3 g4
   simp only [List.length_cons] at g2 g3 g4
   exact ⟨g1, by omega, by omega, by omega, g5⟩
theorem FT {f : PS -> Int × PS} (st : PS) (h : let a := { st with opened := st.opened ++ [-1] }; (f a).2.scope = a.scope /\ (f a).2.l.length <= a.l.length /\ (f a).2.nodes.length + (f a).2.l.length <= a.nodes.length + a.l.length /\
   (f a).2.opened.length + 4 * (f a).2.l.length <= a.opened.length + 4 * a.l.length /\ a.opened.length <= (f a).2.opened.length) : Gr (gU f) st := by
 simp only at h
 obtain ⟨h1, h2, h3, h4, h5⟩ := h
 refine ⟨h1, h2, h3, ?_, ?_⟩
 ·unfold gU; simp only [List.length_set]
  simp only [List.length_append, List.length_cons, List.length_nil] at h4; omega
 ·unfold gU; simp only [List.length_set]
  simp only [List.length_append, List.length_cons, List.length_nil] at h5; omega
theorem Oj (ae : Bool) (len : Nat) : ∀ n : Nat, jK (eQ ae len n) n := by
 intro n
 induction n with
 | zero =>
  intro st hl
  unfold eQ
  refine FT st (Ag len _ (fun n hn => absurd (List.length_eq_zero_iff.1 (by simpa using hl)) hn))
 | succ m ih =>
  intro st hl
  unfold eQ
  refine FT st (Ag len _ (fun n hn => vV ih ae len n _ ?_))
  simp [PS.tail]; omega
theorem KA (w : World) (p : Addr) (u : Value) : w.grownBy (w.setCell p u) (some p.block) :=
 ⟨rfl, rfl, rfl, by simp [World.setCell], fun k _ hk => Below.heap_setCell _ _ _ _ (fun e => hk (by rw [e]))⟩
open Go.Lib (decDigits)
inductive Ty where
 | n
 | p (r : Nat) (a b : Ty)
 deriving DecidableEq
def Ty.txt : Ty -> List UInt8
 | .n => [110]
 | .p r a b => 60 :: (decDigits r ++ 58 :: (a.txt ++ (b.txt ++ [62])))
def Ty.size : Ty -> Nat
 | .n => 0
 | .p _ a b => a.size + b.size + 1
def Ty.bare : Ty -> Ty
 | .n => .n
 | .p _ a b => .p 0 a.bare b.bare
def vA (c : UInt8) : Bool := decide (48 <= c.toNat) && decide (c.toNat <= 57)
theorem yC (u : Nat) : ∀ c ∈ decDigits u, vA c = true := by
 induction u using Nat.strongRecOn with
 | _ u ih =>
  rw [decDigits]
  have key : ∀ k, k < 10 -> vA (UInt8.ofNat (48 + k)) = true := by
   intro k hk
   unfold vA
   have : (UInt8.ofNat (48 + k)).toNat = 48 + k := by simp; omega
   rw [this]; simp; omega
  split
  ·intro c hc; rw [List.mem_singleton] at hc; subst hc; exact key u (by omega)
  ·intro c hc
   rw [List.mem_append] at hc
   rcases hc with hc | hc
   ·exact ih (u / 10) (by omega) c hc
   ·rw [List.mem_singleton] at hc; subst hc; exact key _ (by omega)
theorem aR (l m : List UInt8) : ((bs l).toList == m) = (l == m) := by rw [Lib.toList_data]; rfl
theorem fg (l m : List UInt8) : bs l ++ bs m = bs (l ++ m) := by
 apply PZ; simp [bs]
def Ty.regs : Ty -> Prop
 | .n => True
 | .p r a b => r < 1000 /\ a.regs /\ b.regs
def Ty.fit (t : Ty) : Prop := t.size <= 127 /\ t.regs
structure dD where
 e : Nat
 at_ : Nat
 of : List (List UInt8)
abbrev aQ := List (List UInt8 × Ty)
def look (env : aQ) (s : List UInt8) : Option Ty := (env.reverse.find? (fun x => x.1 == s)).map (·.2)
def cS (st : dD) (e p : Nat) : dD := if st.e = 0 then { st with e := e, at_ := p } else st
def fin (id p : Nat) (x : Ty × dD) : Ty × dD :=
 let st := if x.2.e = 0 /\ 63 < x.1.size then cS x.2 6 p else x.2
 (x.1, { st with of := st.of.set id x.1.txt })
def bB (cls : List Nat) (k : Kw) (p site : Nat) (ks : List Ty) (st : dD) : Ty × dD :=
 match k, ks with
 | .new, a :: _ => (a, st)
 | .pair, [a, b] => (.p (cls.getD site 0) a b, st)
 | .fst, .p _ a _ :: _ => (a, st)
 | .snd, .p _ _ b :: _ => (b, st)
 | .fH, [a, b, c] => if a = .n /\ b.bare = c.bare then (b, st) else (.n, cS st 5 p)
 | .loop, [a, b, c] => if a = .n /\ b.bare = c.bare then (b, st) else (.n, cS st 5 p)
 | .add, [a, b] => if a = .n /\ b = .n then (.n, st) else (.n, cS st 5 p)
 | .sub, [a, b] => if a = .n /\ b = .n then (.n, st) else (.n, cS st 5 p)
 | .less, [a, b] => if a = .n /\ b = .n then (.n, st) else (.n, cS st 5 p)
 | _, _ => (.n, cS st 5 p)
mutual
def aD (cls : List Nat) : PT -> Nat -> Nat -> aQ -> dD -> Ty × dD
 | .num p _, id, _, _, st => fin id p (.n, st)
 | .name p s, id, _, env, st => fin id p (match look env s with
  | some t => (t, st)
  | none => (.n, cS st 4 p))
 | .node p k nm _ kids, id, site, env, st =>
  fin id p (if k = .bb then dx cls nm kids (id + 1) site env st
   else
    let x := if k = .loop then aT cls nm kids (id + 1) site env st else ba cls kids (id + 1) (site + if k = .pair then 1 else 0) env st
    if x.2.e ≠ 0 then (.n, x.2) else bB cls k p site x.1 x.2)
def ba (cls : List Nat) : List PT -> Nat -> Nat -> aQ -> dD -> List Ty × dD
 | [], _, _, _, st => ([], st)
 | a :: r, id, site, env, st =>
  let x := aD cls a id site env st
  let y := ba cls r (id + a.cnt) (site + a.bJ) env x.2
  (x.1 :: y.1, y.2)
def dx (cls : List Nat) (nm : List UInt8) : List PT -> Nat -> Nat -> aQ -> dD -> Ty × dD
 | [a, b], id, site, env, st =>
  let x := aD cls a id site env st
  aD cls b (id + a.cnt) (site + a.bJ) (env ++ [(nm, x.1)]) x.2
 | _, _, _, _, st => (.n, st)
def aT (cls : List Nat) (nm : List UInt8) : List PT -> Nat -> Nat -> aQ -> dD -> List Ty × dD
 | [a, b, c], id, site, env, st =>
  let x := aD cls a id site env st
  let y := aD cls b (id + a.cnt) (site + a.bJ) env x.2
  let z := aD cls c (id + a.cnt + b.cnt) (site + a.bJ + b.bJ) (env ++ [(nm, y.1)]) y.2
  ([x.1, y.1, z.1], z.2)
 | _, _, _, _, st => ([], st)
end
mutual
theorem PT.ind {P : PT -> Prop} (h1 : ∀ p s, P (.num p s)) (h2 : ∀ p s, P (.name p s)) (h3 : ∀ p k nm rg kids, (∀ x ∈ kids, P x) -> P (.node p k nm rg kids)) : ∀ t, P t
 | .num p s => h1 p s
 | .name p s => h2 p s
 | .node p k nm rg kids => h3 p k nm rg kids (PT.VH h1 h2 h3 kids)
theorem PT.VH {P : PT -> Prop} (h1 : ∀ p s, P (.num p s)) (h2 : ∀ p s, P (.name p s)) (h3 : ∀ p k nm rg kids, (∀ x ∈ kids, P x) -> P (.node p k nm rg kids)) : ∀ l : List PT, ∀ x ∈ l, P x
 | [] => fun x hx => by simp at hx
 | t :: r => fun x hx => by
  have ht := PT.ind h1 h2 h3 t
  have hr := PT.VH h1 h2 h3 r
  rcases List.mem_cons.1 hx with h | h
  ·rw [h]; exact ht
  ·exact hr x h
end
theorem FU (t : PT) : 0 < t.cnt := by cases t <;> simp [PT.cnt] <;> omega
theorem sM (ts : List PT) (i : Nat) : aB (ts.take i) <= aB ts := by
 induction ts generalizing i with
 | nil => simp
 | cons a r ih => cases i with
  | zero => simp [aB]
  | succ i => have := ih i; simp [aB]; omega
def apart (u v : Value) : Prop := ∀ g, u.ownBlock = some g -> v.ownBlock ≠ some g
theorem apart.symm {u v : Value} (h : apart u v) : apart v u := fun g hg hu => h g hu hg
def fq (s : ByteArray) (ae : Bool) (fr : Nat) (fl : Bool) (a : Nat) (sv nv ov : Value) : Array Value := #[.string s, .bool ae, .int .i64 fr, .bool fl, .int .i64 a, sv, nv, ov]
def pG (n : NR) : List Value := [.int .i64 n.form, .int .i64 n.at_, .int .i64 n.aO, .int .i64 n.num, .string (bs n.word), .int .i64 n.region, .int .i64 n.source, .int .i64 n.p0, .int .i64 n.p1, .int .i64 n.p2]
def yM (x : List UInt8 × Int) : List Value := [.string (bs x.1), .int .i64 x.2]
def mY (i : Int) : Value := .int .i64 i
structure ee (s : ByteArray) (ae : Bool) (pb : Nat) (w : World) (sv nv ov : Value) (st : PS) : Prop where
 y : ∃ fr, fr <= s.size /\ fS s.data.toList fr = st.l /\ w.heap[pb]? = some (.cells (fq s ae fr st.fl.isSome (st.fl.getD 0) sv nv ov) 150 (0, 0))
 sc : w.ownsRow 0 264 2 sv st.scope.length (st.scope.flatMap yM)
 nd : w.ownsRow 0 160 10 nv st.nodes.length (st.nodes.flatMap pG)
 op : w.ownsRow 0 3 1 ov st.opened.length (st.opened.map mY)
 sy : sv.ownBlock ≠ some pb
 ny : nv.ownBlock ≠ some pb
 oy : ov.ownBlock ≠ some pb
 sn : apart sv nv
 so : apart sv ov
 no : apart nv ov
structure bu (pb nb : Nat) (w w' : World) (sv nv ov fj bw fw : Value) : Prop where
 os : w'.os = w.os
 tape : w'.tape = w.tape
 output : w'.output = w.output
 size : w.heap.size <= w'.heap.size
 blk : ∀ k, k < w.heap.size -> k ≠ pb -> k ≠ nb -> sv.ownBlock ≠ some k -> nv.ownBlock ≠ some k -> ov.ownBlock ≠ some k -> w'.heap[k]? = w.heap[k]?
 s : ∀ g, fj.ownBlock = some g -> sv.ownBlock = some g \/ w.heap.size <= g
 n : ∀ g, bw.ownBlock = some g -> nv.ownBlock = some g \/ w.heap.size <= g
 o : ∀ g, fw.ownBlock = some g -> ov.ownBlock = some g \/ w.heap.size <= g
theorem bu.refl (pb nb : Nat) (w : World) (sv nv ov : Value) : bu pb nb w w sv nv ov sv nv ov := ⟨rfl, rfl, rfl, Nat.le_refl _, fun _ _ _ _ _ _ _ => rfl, fun _ h => Or.inl h, fun _ h => Or.inl h, fun _ h => Or.inl h⟩
theorem bu.trans {pb nb : Nat} {w w1 w2 : World} {sv nv ov xZ sr uq FW cq Ed : Value} (h : bu pb nb w w1 sv nv ov xZ sr uq) (h' : bu pb nb w1 w2 xZ sr uq FW cq Ed) : bu pb nb w w2 sv nv ov FW cq Ed := by
 refine ⟨h'.os.trans h.os, h'.tape.trans h.tape, h'.output.trans h.output, Nat.le_trans h.size h'.size, ?_, ?_, ?_, ?_⟩
 ·intro k hk hp hnb hs hn ho
  rw [h'.blk k (Nat.lt_of_lt_of_le hk h.size) hp hnb (fun e => by rcases h.s k e with e | e; exact hs e; omega) (fun e => by rcases h.n k e with e | e; exact hn e; omega) (fun e => by rcases h.o k e with e | e; exact ho e; omega)]
  exact h.blk k hk hp hnb hs hn ho
 ·intro g hg
  rcases h'.s g hg with e | e
  ·exact h.s g e
  ·exact Or.inr (Nat.le_trans h.size e)
 ·intro g hg
  rcases h'.n g hg with e | e
  ·exact h.n g e
  ·exact Or.inr (Nat.le_trans h.size e)
 ·intro g hg
  rcases h'.o g hg with e | e
  ·exact h.o g e
  ·exact Or.inr (Nat.le_trans h.size e)
theorem bu.below {w w' : World} (pb nb : Nat) (sv nv ov : Value) (h : Below w.heap.size w w') : bu pb nb w w' sv nv ov sv nv ov := ⟨h.os, h.tape, h.output, h.size, fun k hk _ _ _ _ _ => h.block k hk, fun _ h => Or.inl h, fun _ h => Or.inl h, fun _ h => Or.inl h⟩
theorem bu.nb {pb nb : Nat} {w w' : World} {sv nv ov fj bw fw : Value} (h : bu pb pb w w' sv nv ov fj bw fw) : bu pb nb w w' sv nv ov fj bw fw := ⟨h.os, h.tape, h.output, h.size, fun k hk hp _ hs hn ho => h.blk k hk hp hp hs hn ho, h.s, h.n, h.o⟩
theorem ee.move {s : ByteArray} {ae : Bool} {pb : Nat} {w w' : World} {sv nv ov : Value} {st : PS} (h : ee s ae pb w sv nv ov st) (l : List Tk) (fl : Option Nat)
  (hs : ∀ k, sv.ownBlock = some k -> w'.heap[k]? = w.heap[k]?) (hn : ∀ k, nv.ownBlock = some k -> w'.heap[k]? = w.heap[k]?) (ho : ∀ k, ov.ownBlock = some k -> w'.heap[k]? = w.heap[k]?)
  (hy : ∃ fr, fr <= s.size /\ fS s.data.toList fr = l /\ w'.heap[pb]? = some (.cells (fq s ae fr fl.isSome (fl.getD 0) sv nv ov) 150 (0, 0))) :
  ee s ae pb w' sv nv ov { st with l := l, fl := fl } :=
 ⟨hy, ax h.sc hs, ax h.nd hn, ax h.op ho, h.sy, h.ny, h.oy, h.sn, h.so, h.no⟩
theorem ee.slt {s : ByteArray} {ae : Bool} {pb : Nat} {w : World} {sv nv ov : Value} {st : PS} (h : ee s ae pb w sv nv ov st) : (∀ k, sv.ownBlock = some k -> k < w.heap.size) /\ (∀ k, nv.ownBlock = some k -> k < w.heap.size) /\ (∀ k, ov.ownBlock = some k -> k < w.heap.size) /\ pb < w.heap.size :=
 ⟨fun k hk => (h.sc.lt k hk).2, fun k hk => (h.nd.lt k hk).2, fun k hk => (h.op.lt k hk).2, by obtain ⟨fr, _, _, hy⟩ := h.y; exact af hy⟩
theorem ee.below {s : ByteArray} {ae : Bool} {pb : Nat} {w w' : World} {sv nv ov : Value} {st : PS} (h : ee s ae pb w sv nv ov st) (hb : Below w.heap.size w w') : ee s ae pb w' sv nv ov st := by
 obtain ⟨h1, h2, h3, h4⟩ := h.slt
 obtain ⟨fr, hf1, hf2, hf3⟩ := h.y
 exact ee.move h st.l st.fl (fun k hk => hb.block k (h1 k hk)) (fun k hk => hb.block k (h2 k hk)) (fun k hk => hb.block k (h3 k hk)) ⟨fr, hf1, hf2, by rw [hb.block pb h4]; exact hf3⟩
theorem jv {w w2 : World} {A : Obj} {cs : Array Value} {t : TypeId} (hb : Below ((w.alloc A).alloc (.cells cs t)).drew.heap.size ((w.alloc A).alloc (.cells cs t)).drew w2) : w2.heap[w.heap.size + 1]? = some (.cells cs t (0, 0)) := by
 rw [hb.block (w.heap.size + 1) (by show w.heap.size + 1 < ((w.alloc A).alloc (.cells cs t)).heap.size; simp)]
 have h := aj (w.alloc A) (.cells cs t)
 have e : (w.alloc A).heap.size = w.heap.size + 1 := by simp
 rw [e] at h
 exact h
theorem fM {w : World} {g : Nat} {t : TypeId} {a b c d e : Value} (h : w.heap[g]? = some (.cells #[a, b, c, d, e] t (0, 0))) : w.cell? ⟨g, 0, none⟩ = some a /\ w.cell? ⟨g, 1, none⟩ = some b /\ w.cell? ⟨g, 2, none⟩ = some c /\ w.cell? ⟨g, 3, none⟩ = some d /\ w.cell? ⟨g, 4, none⟩ = some e :=
 ⟨by rw [aa h]; rfl, by rw [aa h]; rfl, by rw [aa h]; rfl, by rw [aa h]; rfl, by rw [aa h]; rfl⟩
theorem KC (s : ByteArray) (a : Nat) (ha : a <= s.size) : fS s.data.toList (eM s.size (fS s.data.toList a)).aO = (fS s.data.toList a).tail /\ (eM s.size (fS s.data.toList a)).aO <= s.size := by
 obtain ⟨h1, h2⟩ := BW s s.size a (by omega)
 have lg := JK (s.data.toList.drop a)
 rw [List.length_drop, dE] at lg
 rw [<- h1]
 obtain ⟨p, hp⟩ : ∃ p, p = a + uh (s.data.toList.drop a) := ⟨_, rfl⟩
 rw [<- hp]
 have h3 : ∀ h : p < s.size, dY s[p] = false := by subst hp; exact h2
 by_cases hlt : p < s.size
 ·have ht := FN s p hlt (h3 hlt)
  rw [ht]
  have hlen := Be s p hlt
  have hle := pR (s.data.toList.drop p) (by rw [drop_cons s p hlt]; simp)
  rw [List.length_drop, dE] at hle
  have hb : (eM s.size (jP s p :: fS s.data.toList (p + (aJ (s.data.toList.drop p)).1))).aO = p + (aJ (s.data.toList.drop p)).1 := by
   show (jP s p).at_ + (jP s p).s.length = _
   rw [hlen]; rfl
  rw [hb]
  exact ⟨rfl, by omega⟩
 ·have ht := uL s p (by omega)
  rw [ht]
  exact ⟨uL s s.size (Nat.le_refl _), Nat.le_refl _⟩
theorem B0 {w w2 : World} {T : TN} {A : Array Value} {t : TypeId} (hb : Below ((w.alloc (.cells A t)).drew).heap.size ((w.alloc (.cells A t)).drew) w2) :
  ∃ g, w.heap.size < g /\ Value.pointer (some ⟨w2.heap.size, 0, none⟩) = .pointer (some ⟨g, 0, none⟩) /\ (w2.alloc (.cells #[.int .i64 T.kind, .int .i64 T.at_, .int .i64 T.aO, .string (bs T.word), .int .i64 T.num] t)).heap[g]? = some (.cells #[.int .i64 T.kind, .int .i64 T.at_, .int .i64 T.aO, .string (bs T.word), .int .i64 T.num] t (0, 0)) /\
   (w2.alloc (.cells #[.int .i64 T.kind, .int .i64 T.at_, .int .i64 T.aO, .string (bs T.word), .int .i64 T.num] t)).heap[w.heap.size]? = some (.cells A t (0, 0)) /\ Below w.heap.size w (w2.alloc (.cells #[.int .i64 T.kind, .int .i64 T.at_, .int .i64 T.aO, .string (bs T.word), .int .i64 T.num] t)) := by
 have hs : w.heap.size + 1 <= w2.heap.size := by have := hb.size; simpa using this
 have h0 : w2.heap[w.heap.size]? = some (.cells A t (0, 0)) := by
  rw [hb.block w.heap.size (by show w.heap.size < (w.alloc (.cells A t)).heap.size; simp)]
  exact aj w (.cells A t)
 refine ⟨w2.heap.size, by omega, rfl, aj _ _, aL _ h0, ?_⟩
 have h1 : Below w.heap.size w (w.alloc (.cells A t)).drew := ((Below.refl _ w).alloc (Nat.le_refl _) (.cells A t)).trans ⟨rfl, rfl, rfl, Nat.le_refl _, fun _ _ => rfl⟩
 exact (h1.trans (hb.mono (by show w.heap.size <= (w.alloc (.cells A t)).heap.size; simp))).alloc (by omega) _
theorem B6 {w w2 : World} {T : TN} {A : Array Value} {a b c d e : Value} {t : TypeId} (hb : Below ((w.alloc (.cells A t)).alloc (.cells #[a, b, c, d, e] t)).drew.heap.size ((w.alloc (.cells A t)).alloc (.cells #[a, b, c, d, e] t)).drew w2) :
  ∃ g, w.heap.size < g /\ Value.pointer (some ⟨w.heap.size + 1, 0, none⟩) = .pointer (some ⟨g, 0, none⟩) /\ (((((w2.setCell ⟨w.heap.size + 1, 0, none⟩ (.int .i64 T.kind)).setCell ⟨w.heap.size + 1, 1, none⟩ (.int .i64 T.at_)).setCell ⟨w.heap.size + 1, 2, none⟩ (.int .i64 T.aO)).setCell ⟨w.heap.size + 1, 3, none⟩ (.string (bs T.word))).setCell ⟨w.heap.size + 1, 4, none⟩ (.int .i64 T.num)).heap[g]? = some (.cells #[.int .i64 T.kind, .int .i64 T.at_, .int .i64 T.aO, .string (bs T.word), .int .i64 T.num] t (0, 0)) /\
   (((((w2.setCell ⟨w.heap.size + 1, 0, none⟩ (.int .i64 T.kind)).setCell ⟨w.heap.size + 1, 1, none⟩ (.int .i64 T.at_)).setCell ⟨w.heap.size + 1, 2, none⟩ (.int .i64 T.aO)).setCell ⟨w.heap.size + 1, 3, none⟩ (.string (bs T.word))).setCell ⟨w.heap.size + 1, 4, none⟩ (.int .i64 T.num)).heap[w.heap.size]? = some (.cells A t (0, 0)) /\
   Below w.heap.size w (((((w2.setCell ⟨w.heap.size + 1, 0, none⟩ (.int .i64 T.kind)).setCell ⟨w.heap.size + 1, 1, none⟩ (.int .i64 T.at_)).setCell ⟨w.heap.size + 1, 2, none⟩ (.int .i64 T.aO)).setCell ⟨w.heap.size + 1, 3, none⟩ (.string (bs T.word))).setCell ⟨w.heap.size + 1, 4, none⟩ (.int .i64 T.num)) := by
 have hq := jv hb
 have h0 : w2.heap[w.heap.size]? = some (.cells A t (0, 0)) := by
  rw [hb.block w.heap.size (by show w.heap.size < ((w.alloc (.cells A t)).alloc (.cells #[a, b, c, d, e] t)).heap.size; simp; omega)]
  exact aL _ (aj w (.cells A t))
 refine ⟨w.heap.size + 1, by omega, rfl, ?_, ?_, ?_⟩
 ·exact az (az (az (az (az hq 0 _) 1 _) 2 _) 3 _) 4 _
 ·rw [ak _ _ (by simp only; omega), ak _ _ (by simp only; omega), ak _ _ (by simp only; omega), ak _ _ (by simp only; omega), ak _ _ (by simp only; omega)]
  exact h0
 ·have h1 : Below w.heap.size w ((w.alloc (.cells A t)).alloc (.cells #[a, b, c, d, e] t)).drew := (((Below.refl _ w).alloc (Nat.le_refl _) (.cells A t)).alloc (by simp) (.cells #[a, b, c, d, e] t)).trans ⟨rfl, rfl, rfl, Nat.le_refl _, fun _ _ => rfl⟩
  have h2 := h1.trans (hb.mono (by show w.heap.size <= ((w.alloc (.cells A t)).alloc (.cells #[a, b, c, d, e] t)).heap.size; simp; omega))
  exact ((((h2.setCell (p := ⟨w.heap.size + 1, 0, none⟩) (by simp) _).setCell (p := ⟨w.heap.size + 1, 1, none⟩) (by simp) _).setCell (p := ⟨w.heap.size + 1, 2, none⟩) (by simp) _).setCell (p := ⟨w.heap.size + 1, 3, none⟩) (by simp) _).setCell (p := ⟨w.heap.size + 1, 4, none⟩) (by simp) _
theorem vW (s : ByteArray) (ae : Bool) (pb : Nat) (w : World) (sv nv ov : Value) (st : PS) (hs : s.size <= 9000) (h : ee s ae pb w sv nv ov st) :
  Calls Tryz.prog 153 #[ptr pb] w fun v w' => v = .returned (gV (eM s.size st.l)) /\ bu pb pb w w' sv nv ov sv nv ov /\ ee s ae pb w' sv nv ov st.tail := by
 obtain ⟨fr, hf1, hf2, hf3⟩ := h.y
 obtain ⟨l1, l2, l3, l4⟩ := h.slt
 have jV := fun w => Kz s fr w hs hf1
 have hnb := KC s fr hf1
 rw [hf2] at jV hnb
 have y0 : w.cell? ⟨pb, 0, none⟩ = some (.string s) := by rw [aa hf3]; rfl
 have y2 : w.cell? ⟨pb, 2, none⟩ = some (.int .i64 fr) := by rw [aa hf3]; rfl
 have Ju : Hid _ := hnb
 have HH : Hid _ := h
 have dC : Hid _ := hf3
 have Qc : Hid _ := l1
 have VI : Hid _ := l2
 have VJ : Hid _ := l3
 generalize eM s.size st.l = T at jV Ju
 unfold gV at jV
 clear hf1 hf2 hf3 hnb h l1 l2 l3
 show Calls _ _ #[Value.pointer (some ⟨pb, 0, none⟩)] w _
 go_enter Tryz.func153, Tryz.ntmps153
 go_upto_region 1 with fail
 go_cut [3] from 4 to 12 (fun t3 wx => ∃ g, w.heap.size < g /\ t3 = .pointer (some ⟨g, 0, none⟩) /\ wx.heap[g]? = some (.cells #[.int .i64 T.kind, .int .i64 T.at_, .int .i64 T.aO, .string (bs T.word), .int .i64 T.num] 208 (0, 0)) /\
   wx.heap[w.heap.size]? = some (.cells #[.int .i64 0, .int .i64 0, .int .i64 0, .string ⟨#[]⟩, .int .i64 0] 208 (0, 0)) /\ Below w.heap.size w wx)
 case first =>
  go_region_with (go_at_call 182; refine (jV _).mono ?_; rintro e w2 ⟨rfl, hb2⟩; (try (have hq := jv hb2; obtain ⟨c0, c1, c2, c3, c4⟩ := fM hq; have f0 := ag hq 0; have f1 := ag hq 1; have f2 := ag hq 2; have f3 := ag hq 3; have f4 := ag hq 4)))
  all_goals (go_wp2_with fail; go_meet)
  all_goals first
   | exact B0 hb2
   | exact B6 hb2
 case rest =>
 obtain ⟨g, hg, rfl, Y6, Hv, hbc⟩ := hcut
 obtain ⟨c0, c1, c2, c3, c4⟩ := fM Y6
 have yc : wc.heap[pb]? = some (.cells (fq s ae fr st.fl.isSome (st.fl.getD 0) sv nv ov) 150 (0, 0)) := by rw [hbc.block pb l4]; exact dC.out
 have z2 : wc.cell? ⟨pb, 2, none⟩ = some (.int .i64 fr) := by rw [aa yc]; rfl
 have zf2 : wc.frozen? ⟨pb, 2, none⟩ = false := ag yc 2
 have nI : g ≠ pb := by omega
 have Qf : w.heap.size ≠ pb := by omega
 have ez : (wc.setCell ⟨pb, 2, none⟩ (.int .i64 T.aO)).heap[w.heap.size]? = some (.cells #[.int .i64 0, .int .i64 0, .int .i64 0, .string ⟨#[]⟩, .int .i64 0] 208 (0, 0)) := by
  rw [ak _ _ (by simp only; omega)]; exact Hv
 have HYC : Hid _ := yc
 have NQ : Hid _ := hbc
 have hgw := af Y6
 clear yc hbc Hv Y6 y0 y2 jV
 go_wp2_with (refine jb rfl 208 (.tmp 2) (.tmp 18) rfl w.heap.size #[.int .i64 T.kind, .int .i64 T.at_, .int .i64 T.aO, .string (bs T.word), .int .i64 T.num] rfl rfl 208 _ ez Tryz.sN rfl (sO T) ?_; intro W hW lh mg hW1 hW2 hW3)
 obtain ⟨d0, d1, d2, d3, d4⟩ := fM hW
 refine bodyPost_ret (v := .agg #[.int .i64 T.kind, .int .i64 T.at_, .int .i64 T.aO, .string (bs T.word), .int .i64 T.num]) (by simp [results, Tryz.results153, go_sem, d0, d1, d2, d3, d4]) rfl ⟨rfl, ?_, ?_⟩
 ·have hb := NQ.out
  refine ⟨hW1.trans hb.os, hW2.trans hb.tape, hW3.trans hb.output, by rw [lh]; simp only [World.setCell, Array.size_modify]; exact hb.size, ?_, fun _ h => Or.inl h, fun _ h => Or.inl h, fun _ h => Or.inl h⟩
  intro k hk hkp _ _ _ _
  rw [mg k (by omega), ak _ _ (by simpa using hkp)]
  exact hb.block k hk
 ·have kp : ∀ k, k < w.heap.size -> k ≠ pb -> W.heap[k]? = w.heap[k]? := by
   intro k hk hkp
   rw [mg k (by omega), ak _ _ (by simpa using hkp)]
   exact NQ.out.block k hk
  refine ee.move HH.out st.tail.l st.tail.fl (fun k hk => kp k (Qc.out k hk) (fun e => HH.out.sy (by rw [hk, e]))) (fun k hk => kp k (VI.out k hk) (fun e => HH.out.ny (by rw [hk, e]))) (fun k hk => kp k (VJ.out k hk) (fun e => HH.out.oy (by rw [hk, e]))) ⟨T.aO, Ju.out.2, Ju.out.1, ?_⟩
  rw [mg pb (by omega)]
  exact az HYC.out 2 _
end Go.Proofs.YtpicaknklgccoaaGreatDoor
