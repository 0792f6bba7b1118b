import Derived.Test.YtpicaknklgccoaaGreatDoorS25
set_option maxHeartbeats 8000000
set_option maxRecDepth 100000
namespace Go.Proofs.YtpicaknklgccoaaGreatDoor
theorem qw (f : Vl -> cd -> Vl × cd) (k : Nat) (v : Vl) (st : cd) (h : st.e ≠ 0) : (turns f k v st).2 = st := by
 cases k with
 | zero => rfl
 | succ k => simp only [turns]; rw [if_pos h]
theorem gK (i : Int) (f : MM -> MV × MM) (k : Nat) (v : MV) (m : MM) (h : m.fault ≠ 0) : (cP i f k v m).2 = m := by
 cases k with
 | zero => rfl
 | succ k => simp only [cP]; rw [if_pos h]
theorem Iu.name {st : cd} {m : MM} (h : Iu st m) (i : Int) (v : MV) : Iu st (m.name i v) := ⟨h.1, by rw [(jc m i v).1]; exact h.2⟩
open Go.RowKit
theorem K8 (m : MM) (v : MV) (h : m.fault ≠ 0) : (m.use v).2 = m := by
 unfold MM.use; split
 ·rfl
 ·simp only; split
  ·rfl
  ·exact sQ m 13 h
theorem jf : ∀ (X : Vl) (v : MV) (m : MM), m.fault ≠ 0 -> cK X v m = m
 | .n _, _, _, _ => rfl
 | .p a b, v, m, h => by
  simp only [cK]
  rw [K8 m v h, jf a _ m h, jf b _ m h]
theorem wz {cells : List MC} : ∀ {X : Vl} {T : Ty}, X.has T -> X.size = T.size
 | .n _, .n, _ => rfl
 | .p a b, .p _ A B, h => by
  simp only [Vl.has] at h
  simp only [Vl.size, Ty.size]
  rw [wz (cells := cells) h.1, wz (cells := cells) h.2]
 | .n _, .p _ _ _, h => by simp [Vl.has] at h
 | .p _ _, .n, h => by simp [Vl.has] at h
def pN (y : Vl × cd) : Value := if y.2.e ≠ 0 then .agg #[.string ⟨#[]⟩, .int .i64 0, .int .i64 0, .int .i64 0, .int .i64 0] else .agg #[.string (bs y.1.txt), .int .i64 y.2.steps, .int .i64 y.2.cells, .int .i64 y.2.cells, .int .i64 y.2.cells]
theorem oQ {w : World} {base : Nat} {e : TypeId} {size : Nat} {v : Value} {n : Nat} {xs : List Value} (h : w.ownsRow base e size v n xs) {b : Nat} {arr : Array Value} {t : TypeId} {fr : Nat × Nat} (hb : w.heap[b]? = some (.cells arr t fr)) (ht : t ≠ e) : ∀ k, v.ownBlock = some k -> k ≠ b := by
 intro k hk hkb
 rcases h.2 with ⟨h1, _⟩ | ⟨g, cap, cur, h1, _, hh, _⟩
 ·rw [h1] at hk; simp [Value.ownBlock] at hk
 ·rw [h1] at hk
  simp [Value.ownBlock] at hk
  rw [hk, hkb, hb] at hh
  simp only [Option.some.injEq, Obj.cells.injEq] at hh
  exact ht hh.2.1
theorem Aw (s : ByteArray) (w : World) (hs : s.size <= 3000) (e : PT) (hp : PE false (tokens s.data.toList) e []) : Calls Tryz.prog 31 #[.string s] w fun v w' => ∃ x1 n1 c1 x2 n2 c2 ns, v = .returned (.tuple #[aK (.slice x1 n1 c1) (.slice x2 n2 c2), .int .i64 (cx e).1, .int .i64 (cx e).2]) /\ Below w.heap.size w w' /\ bh w' (.slice x1 n1 c1) (.slice x2 n2 c2) ns (opn e 0) /\ NA [] e 0 ns /\ (jt false s.size (tokens s.data.toList)).nodes = ns := by
 obtain ⟨ns, bq, DA⟩ := rP (len := s.size) hp
 have o6 := iZ hp
 have lg := bq.len
 have Cr := fun w => wA s w (by omega)
 have jm := fun (w : World) (nv ov : Value) (h : bh w nv ov ns (opn e 0)) => nJ w nv ov ns (opn e 0) h (yI bq) (by omega) (bq.small (fun _ h => by simp at h) (by omega)) (fun j n hj => by have := bq.back j n hj; simpa using this)
 rw [vL bq] at jm
 have QC : Hid _ := DA
 have A6 : Hid _ := jm
 have hnd : (jt false s.size (tokens s.data.toList)).nodes = ns := by rw [DA]
 have Cm : Hid _ := And.intro bq hnd
 clear hp bq DA jm lg hnd
 generalize cx e = ans at *
 go_enter Tryz.func31, Tryz.ntmps31
 go_wp2_with fail
 refine (Cr _).mono ?_
 rintro v w1 ⟨hb, hv⟩
 have hr := rA hb
 have hlt := af hr
 have HB : Hid _ := mq hb
 have HR : Hid _ := hr
 rcases hv with ⟨q', hq', _⟩ | ⟨_, nv, ov, rfl, hT⟩
 ·rw [QC.out] at hq'; cases hq'
 ·rw [QC.out] at hT
  simp only at hT
  obtain ⟨x1, c1, e1⟩ := aF hT.nd
  obtain ⟨x2, c2, e2⟩ := aF hT.op
  have Ba : Hid _ := oQ hT.nd hr (by decide)
  have qQ : Hid _ := oQ hT.op hr (by decide)
  have lS := hT.below ((Below.refl _ w1).alloc (Nat.le_refl _) (.cells #[nv, ov] 59))
  have jm := A6.out (w1.alloc (.cells #[nv, ov] 59)) nv ov (hT.below ((Below.refl _ w1).alloc (Nat.le_refl _) _))
  subst e1
  subst e2
  unfold aK at jm
  unfold aK
  clear hT hb hr Cr
  go_wp2_with fail
  refine jm.mono ?_
  rintro _ w2 ⟨rfl, hb2⟩
  have Cs : Hid _ := lS.below hb2
  have hk := rA hb2
  have k0 : w2.cell? ⟨w1.heap.size, 0, none⟩ = some (.slice x1 ns.length c1) := by rw [aa hk]; rfl
  have k1 : w2.cell? ⟨w1.heap.size, 1, none⟩ = some (.slice x2 (opn e 0).length c2) := by rw [aa hk]; rfl
  have ez : w2.heap[w.heap.size]? = some (.cells #[.slice none 0 0, .slice none 0 0] 59 (0, 0)) := by
   rw [hb2.block _ (by simp; omega)]; exact aL _ HR.out
  have r0 : w2.cell? ⟨w.heap.size, 0, none⟩ = some (.slice none 0 0) := by rw [aa ez]; rfl
  have r1 : w2.cell? ⟨w.heap.size, 1, none⟩ = some (.slice none 0 0) := by rw [aa ez]; rfl
  have f0 := ag ez 0
  have f1 := ag ez 1
  have kZ : Below w.heap.size w w2 := HB.out.trans ((mq hb2).mono HB.out.size)
  have dN : Hid _ := kZ
  have hne : w.heap.size ≠ w1.heap.size := by omega
  clear hk ez hb2 kZ jm
  go_wp2
  refine bodyPost_ret (v := .tuple #[.agg #[.slice x1 ns.length c1, .slice x2 (opn e 0).length c2], .int .i64 ans.1, .int .i64 ans.2]) (by simp [results, Tryz.results31, go_sem, r0, r1]) rfl ⟨x1, ns.length, c1, x2, (opn e 0).length, c2, ns, rfl, ?_, ⟨ax Cs.out.nd (fun k hk => by rw [ak _ _ (by simpa using Ba.out k hk), ak _ _ (by simpa using Ba.out k hk)]), ax Cs.out.op (fun k hk => by rw [ak _ _ (by simpa using qQ.out k hk), ak _ _ (by simpa using qQ.out k hk)])⟩, Cm.out⟩
  exact (dN.out.setCell (p := ⟨w.heap.size, 0, none⟩) (Nat.le_refl _) _).setCell (p := ⟨w.heap.size, 1, none⟩) (Nat.le_refl _) _
def posOf (len : Nat) : List Tk -> Nat
 | [] => len
 | t :: _ => t.at_
theorem df (len : Nat) (t : Tk) (r : List Tk) : posOf len (t :: r) = t.at_ := rfl
theorem yQ (len : Nat) : posOf len [] = len := rfl
def jy (len : Nat) : List Tk -> Prop
 | [] => True
 | t :: r => 0 < t.s.length /\ t.at_ + t.s.length <= posOf len r /\ jy len r
theorem wB (len : Nat) : ∀ (f p : Nat) (l : List UInt8), p + l.length = len -> jy len (toks f p l) /\ p <= posOf len (toks f p l)
 | 0, p, l, h => by simp only [toks, jy, yQ, true_and]; omega
 | f + 1, p, [], h => by simp only [toks, jy, yQ, true_and]; simp at h; omega
 | f + 1, p, c :: r, h => by
  simp only [List.length_cons] at h
  simp only [toks]
  split
  ·have := wB len f (p + 1) r (by omega)
   exact ⟨this.1, by omega⟩
  ·have hp := lq (c :: r)
   have hl := pR (c :: r) (by simp)
   simp only [List.length_cons] at hl
   have := wB len f (p + (aJ (c :: r)).1) ((c :: r).drop (aJ (c :: r)).1) (by simp only [List.length_drop, List.length_cons]; omega)
   simp only [jy, df, List.length_take, List.length_cons]
   exact ⟨⟨by omega, by omega, this.1⟩, Nat.le_refl _⟩
theorem wC (l : List UInt8) : jy l.length (tokens l) := (wB l.length l.length 0 l (by omega)).1
mutual
def dc : PT -> List NR -> Nat -> Nat -> Prop
 | .num p _, ns, lo, hi => ∃ n, ns = [n] /\ n.at_ = p /\ lo <= p /\ p < n.aO /\ n.aO <= hi
 | .name p _, ns, lo, hi => ∃ n, ns = [n] /\ n.at_ = p /\ lo <= p /\ p < n.aO /\ n.aO <= hi
 | .node p _ _ _ kids, ns, lo, hi => ∃ ks n, ns = ks ++ [n] /\ n.at_ = p /\ lo <= p /\ bV kids ks (p + 1) n.aO /\ p < n.aO /\ n.aO <= hi
def bV : List PT -> List NR -> Nat -> Nat -> Prop
 | [], ns, lo, hi => ns = [] /\ lo <= hi
 | t :: r, ns, lo, hi => ∃ a c mid, ns = a ++ c /\ dc t a lo mid /\ bV r c mid hi
end
theorem dc.lo {t : PT} {ns : List NR} {lo Wh hi : Nat} (h : dc t ns lo hi) (hl : Wh <= lo) : dc t ns Wh hi := by
 cases t with
 | num p s => simp only [dc] at h ⊢; obtain ⟨n, h1, h2, h3, h4⟩ := h; exact ⟨n, h1, h2, by omega, h4⟩
 | name p s => simp only [dc] at h ⊢; obtain ⟨n, h1, h2, h3, h4⟩ := h; exact ⟨n, h1, h2, by omega, h4⟩
 | node p k nm rg kids => simp only [dc] at h ⊢; obtain ⟨ks, n, h1, h2, h3, h4⟩ := h; exact ⟨ks, n, h1, h2, by omega, h4⟩
theorem bV.lo {ts : List PT} {ns : List NR} {lo Wh hi : Nat} (h : bV ts ns lo hi) (hl : Wh <= lo) : bV ts ns Wh hi := by
 cases ts with
 | nil => simp only [bV] at h ⊢; exact ⟨h.1, by omega⟩
 | cons t r => simp only [bV] at h ⊢; obtain ⟨a, c, mid, h1, h2, h3⟩ := h; exact ⟨a, c, mid, h1, h2.lo hl, h3⟩
theorem bV.hi : ∀ {ts : List PT} {ns : List NR} {lo hi hi' : Nat}, bV ts ns lo hi -> hi <= hi' -> bV ts ns lo hi'
 | [], _, _, _, _, h, hl => by simp only [bV] at h ⊢; exact ⟨h.1, by omega⟩
 | t :: r, _, _, _, _, h, hl => by simp only [bV] at h ⊢; obtain ⟨a, c, mid, h1, h2, h3⟩ := h; exact ⟨a, c, mid, h1, h2, h3.hi hl⟩
theorem dc.lt {t : PT} {ns : List NR} {lo hi : Nat} (h : dc t ns lo hi) : lo < hi := by
 cases t with
 | num p s => simp only [dc] at h; obtain ⟨n, h1, h2, h3, h4⟩ := h; omega
 | name p s => simp only [dc] at h; obtain ⟨n, h1, h2, h3, h4⟩ := h; omega
 | node p k nm rg kids => simp only [dc] at h; obtain ⟨ks, n, h1, h2, h3, h4⟩ := h; omega
theorem bV.le : ∀ {ts : List PT} {ns : List NR} {lo hi : Nat}, bV ts ns lo hi -> lo <= hi
 | [], _, _, _, h => by simp only [bV] at h; exact h.2
 | t :: r, _, _, _, h => by simp only [bV] at h; obtain ⟨a, c, mid, h1, h2, h3⟩ := h; have := h2.lt; have := h3.le; omega
def Ss (ae : Bool) (len : Nat) (pE : PS -> Int × PS) (m : Nat) : Prop := ∀ (l : List Tk) (e : PT) (r : List Tk), PE ae l e r -> l.length <= m -> jy len l -> ∀ st : PS, st.l = l -> st.fl = none ->
 ∃ ns, (pE st).2.nodes = st.nodes ++ ns /\ dc e ns (posOf len l) (posOf len r)
theorem K9 {ae : Bool} {len : Nat} {pE : PS -> Int × PS} {m : Nat} (hY : Ss ae len pE m) (w : List UInt8) (src : Int) {l : List Tk} {e : PT} {r : List Tk} (h : PE ae l e r) (hm : l.length <= m) (ht : jy len l) (st : PS) (hl : st.l = l) (hf : st.fl = none) :
  ∃ ns, (eO pE w src st).2.nodes = st.nodes ++ ns /\ dc e ns (posOf len l) (posOf len r) := hY l e r h hm ht { st with scope := st.scope ++ [(w, src)] } hl hf
mutual
theorem PE.Ax {ae : Bool} {len : Nat} : ∀ {l : List Tk} {e : PT} {r : List Tk}, PE ae l e r -> jy len l -> jy len r /\ posOf len l <= posOf len r
 | _, _, _, .num _, h => by simp only [jy] at h; exact ⟨h.2.2, by simp only [df]; omega⟩
 | _, _, _, .name _, h => by simp only [jy] at h; exact ⟨h.2.2, by simp only [df]; omega⟩
 | _, _, _, .node _ _ _ h4, h => by
  simp only [jy] at h
  have := PW.Ax h4 h.2.2.2.2
  have h1 := h.2.1
  simp only [df] at h1 ⊢
  exact ⟨this.1, by omega⟩
theorem PW.Ax {ae : Bool} {len : Nat} : ∀ {ws : List Wt} {l : List Tk} {nm rg : List UInt8} {kids : List PT} {r : List Tk}, PW ae ws l nm rg kids r -> jy len l -> jy len r /\ posOf len l <= posOf len r
 | _, _, _, _, _, _, .nil, h => ⟨h, Nat.le_refl _⟩
 | _, _, _, _, _, _, .close _ h1, h => by simp only [jy] at h; have := PW.Ax h1 h.2.2; simp only [df]; exact ⟨this.1, by omega⟩
 | _, _, _, _, _, _, .name _ h1, h => by simp only [jy] at h; have := PW.Ax h1 h.2.2; simp only [df]; exact ⟨this.1, by omega⟩
 | _, _, _, _, _, _, .region _ h1, h => by simp only [jy] at h; have := PW.Ax h1 h.2.2; simp only [df]; exact ⟨this.1, by omega⟩
 | _, _, _, _, _, _, .e h0 h1, h => by have a := PE.Ax h0 h; have b := PW.Ax h1 a.1; exact ⟨b.1, by omega⟩
end
theorem OT {ae : Bool} (len : Nat) {pE : PS -> Int × PS} {m : Nat} (hY : La ae pE m) (hP : Ss ae len pE m) : ∀ (is : List qx) (l : List Tk) (nm rg : List UInt8) (kids : List PT) (r : List Tk), PW ae (is.map qx.wt ++ [.close]) l nm rg kids r ->
  l.length <= m -> jy len l -> ∀ (st : PS) (fs : FS), st.l = l -> st.fl = none ->
  ∃ t ns, (gp len pE is fs st).2.l = t :: r /\ (gp len pE is fs st).2.nodes = st.nodes ++ ns /\ bV kids ns (posOf len l) t.at_ /\ 0 < t.s.length /\ t.at_ + t.s.length <= posOf len r := by
 intro is
 induction is with
 | nil =>
  intro l nm rg kids r h hm ht st fs hl hf
  simp only [List.map_nil, List.nil_append] at h
  cases h with
  | close hc h1 =>
   cases h1
   simp only [jy] at ht
   refine ⟨_, [], by simp only [gp]; exact hl, by simp only [gp, List.append_nil], ?_, ht.1, ht.2.1⟩
   simp only [bV, df, true_and]; exact Nat.le_refl _
 | cons i is ih =>
  intro l nm rg kids r h hm ht st fs hl hf
  cases i with
  | name =>
   simp only [List.map_cons, qx.wt, List.cons_append] at h
   cases h with
   | name hc h1 =>
    rename_i t r1 X3
    simp only [List.length_cons] at hm
    simp only [jy] at ht
    have hk : (eM len st.l).kind = 4 := by rw [hl]; exact (lU _).2 hc
    have hex : st.expect len 4 = { st with l := r1 } := by
     unfold PS.expect; rw [if_neg (by simp [hk])]; simp [PS.tail, hl]
    obtain ⟨t', ns, h2, h3, h4, h5⟩ := ih r1 X3 rg kids r h1 (by omega) ht.2.2 { st with l := r1 } { fs with word := (eM len st.l).word } rfl hf
    refine ⟨t', ns, ?_, ?_, h4.lo (by simp only [df]; omega), h5⟩
    ·simp only [gp]; rw [hex]; exact h2
    ·simp only [gp]; rw [hex]; exact h3
  | region =>
   simp only [List.map_cons, qx.wt, List.cons_append] at h
   cases h with
   | region hc h1 =>
    rename_i t r1 ZH
    simp only [List.length_cons] at hm
    simp only [jy] at ht
    have hk : (eM len st.l).kind = 6 := by rw [hl]; exact (ow _).2 hc
    have hex : st.expect len 6 = { st with l := r1 } := by
     unfold PS.expect; rw [if_neg (by simp [hk])]; simp [PS.tail, hl]
    obtain ⟨t', ns, h2, h3, h4, h5⟩ := ih r1 nm ZH kids r h1 (by omega) ht.2.2 { st with l := r1 } { fs with region := (eM len st.l).num } rfl hf
    refine ⟨t', ns, ?_, ?_, h4.lo (by simp only [df]; omega), h5⟩
    ·simp only [gp]; rw [hex]; exact h2
    ·simp only [gp]; rw [hex]; exact h3
  | e =>
   simp only [List.map_cons, qx.wt, List.cons_append] at h
   cases h with
   | e he h1 =>
    rename_i e r1 wD
    have hlt := he.len
    have htk := he.Ax ht
    obtain ⟨OU, eC, gu⟩ := hY l e r1 he hm st hl hf
    obtain ⟨Wi, ZI, hpos⟩ := hP l e r1 he hm ht st hl hf
    obtain ⟨t', ns, h2, h3, h4, h5⟩ := ih r1 nm rg wD r h1 (by omega) htk.1 (pE st).2 { fs with parts := fs.parts ++ [(pE st).1] } (by rw [gu]) (by rw [gu]; exact hf)
    refine ⟨t', Wi ++ ns, ?_, ?_, ?_, h5⟩
    ·simp only [gp]; exact h2
    ·simp only [gp]; rw [h3, ZI, List.append_assoc]
    ·simp only [bV]; exact ⟨Wi, ns, _, rfl, hpos, h4⟩
  | body =>
   simp only [List.map_cons, qx.wt, List.cons_append] at h
   cases h with
   | e he h1 =>
    rename_i e r1 wD
    have hlt := he.len
    have htk := he.Ax ht
    obtain ⟨OU, eC, gu⟩ := wE hY fs.word (fs.parts.getLastD (-1)) he hm st hl hf
    obtain ⟨Wi, ZI, hpos⟩ := K9 hP fs.word (fs.parts.getLastD (-1)) he hm ht st hl hf
    obtain ⟨t', ns, h2, h3, h4, h5⟩ := ih r1 nm rg wD r h1 (by omega) htk.1 (eO pE fs.word (fs.parts.getLastD (-1)) st).2 { fs with parts := fs.parts ++ [(eO pE fs.word (fs.parts.getLastD (-1)) st).1] } (by rw [gu]) (by rw [gu]; exact hf)
    refine ⟨t', Wi ++ ns, ?_, ?_, ?_, h5⟩
    ·simp only [gp]; exact h2
    ·simp only [gp]; rw [h3, ZI, List.append_assoc]
    ·simp only [bV]; exact ⟨Wi, ns, _, rfl, hpos, h4⟩
theorem Lb (ae : Bool) (len : Nat) : ∀ n : Nat, Ss ae len (eQ ae len n) n := by
 intro n
 induction n with
 | zero =>
  intro l e r h hm
  obtain ⟨t, r', he, _⟩ := h.suffix
  rw [he] at hm; simp at hm
 | succ m ih =>
  intro l e r h hm ht st hl hf
  cases h with
  | num hc =>
   rename_i t
   simp only [jy] at ht
   obtain ⟨ns, hn, hp⟩ := (nZ ae len (m + 1)).1 _ _ _ (PE.num hc) hm st hl hf
   simp only [NA] at hn
   subst hn
   refine ⟨_, by rw [hp], ⟨_, rfl, rfl, Nat.le_refl _, ?_⟩⟩
   simp only; exact ⟨by omega, ht.2.1⟩
  | name hc =>
   rename_i t
   simp only [jy] at ht
   obtain ⟨ns, hn, hp⟩ := (nZ ae len (m + 1)).1 _ _ _ (PE.name hc) hm st hl hf
   simp only [NA] at hn
   subst hn
   refine ⟨_, by rw [hp], ⟨_, rfl, rfl, Nat.le_refl _, ?_⟩⟩
   simp only; exact ⟨by omega, ht.2.1⟩
  | node hc hk hw h4 =>
   rename_i t u k r0 nm rg kids
   have DZ : ¬ (cG (bE u.c) = 0 \/ (cG (bE u.c) = 12 /\ ae = false)) := by
    rw [mF, hk]; exact hw
   rw [mG k ae hw] at h4
   simp only [List.length_cons] at hm
   simp only [jy] at ht
   obtain ⟨c, ns, h1, h2, h3, h5, h6⟩ := OT len (nZ ae len m).1 ih (qy k ae) r0 nm rg kids r h4 (by omega) ht.2.2.2.2 { st with opened := st.opened ++ [-1], l := r0 } ⟨[], [], 0⟩ rfl hf
   obtain ⟨c', ns', h1', _, h3'⟩ := F4 len (nZ ae len m).1 (qy k ae) r0 nm rg kids r h4 (F5 k ae) (by omega)
     { st with opened := st.opened ++ [-1], l := r0 } ⟨[], [], 0⟩ nm rfl hf (fun e => absurd e (yR k ae)) (by
      split
      ·rfl
      ·rename_i hn
       have : Wt.name ∉ (qy k ae).map qx.wt ++ [.close] := by
        intro hh
        rcases List.mem_append.1 hh with hh | hh
        ·obtain ⟨i, hi, e⟩ := List.mem_map.1 hh
         cases i with
         | name => exact hn (by simpa using hi)
         | _ => cases e
        ·simp at hh
       exact (PW.wF h4 this).symm)
   have hcc : c = c' := by rw [h3'] at h1; simp only at h1; cases h1; rfl
   subst hcc
   have h21 := ht.2.1
   simp only [df] at h21
   have h22 := ht.2.2.2.1
   refine ⟨ns ++ [{ NR.filled ⟨aU k, t.at_, t.at_ + t.s.length, 0, [], 0, -1, -1, -1, -1⟩ (gp len (eQ ae len m) (qy k ae) ⟨[], [], 0⟩ { st with opened := st.opened ++ [-1], l := r0 }).1 with aO := c.at_ + c.s.length }], ?_, ⟨ns, _, rfl, rfl, Nat.le_refl _, ?_, ?_, h6⟩⟩
   ·show (gU (gT len (gj ae len (eQ ae len m))) st).2.nodes = _
    unfold gU
    rw [wG len _ { st with opened := st.opened ++ [-1] } hl hc]
    unfold gj
    have htk : eM len (u :: r0) = gA u := rfl
    simp only [htk]
    rw [if_neg (by simpa [gA] using DZ)]
    have hform : cG (gA u).kind = aU k := by simp [gA, hk, aU]
    rw [hform, sR ae len _ k hw]
    simp only [PS.tail, List.tail_cons]
    have hkc : (eM len (c :: r)).kind = 3 := (sB _).2 h1'
    simp only [PS.expect, h1, hkc]
    rw [if_neg (by simp)]
    simp only [PS.tail, PS.add, h2, List.append_assoc]
    rfl
   ·exact (h3.lo (by omega)).hi (by show c.at_ <= c.at_ + c.s.length; omega)
   ·have hlo : posOf len r0 <= c.at_ := h3.le
    show t.at_ < c.at_ + c.s.length
    omega
theorem Et (a : Nat) (st : PS) : (st.fail a).nodes = st.nodes := by unfold PS.fail; split <;> rfl
theorem Ay (len k : Nat) (st : PS) : (st.expect len k).nodes = st.nodes := by
 unfold PS.expect
 split
 ·rw [Et]; rfl
 ·rfl
theorem Ct {ae : Bool} {len : Nat} {l : List Tk} {e : PT} (h : PE ae l e []) (ht : jy len l) : dc e (jt ae len l).nodes (posOf len l) len := by
 obtain ⟨ns, h1, h2⟩ := Lb ae len l.length l e [] h (Nat.le_refl _) ht (ps0 l) rfl rfl
 unfold jt
 rw [Ay, h1]
 exact h2
theorem Az (w : World) (x1 : Option Addr) (n1 c1 : Nat) (x2 : Option Addr) (n2 c2 : Nat) (ns : List NR) (op : List Int) (hT : bh w (.slice x1 n1 c1) (.slice x2 n2 c2) ns op) (ho : vq ns op) (hl : ns.length <= 9000) (sj : ∀ n ∈ ns, n.small) (n0 : NR) (h0 : ns[ns.length - 1]? = some n0) (hB : n0.aO <= 9000) (hat : ∀ n ∈ ns, n.at_ < n0.aO) (hsz : iY [] (ns.map atR)) (E fs : List Nat) (hE : E = rq [] (List.range n0.aO) ns) (hfs : fs = aX E (bD ns op))
  (x9 : List NR) (h2 : ∀ (k : Nat) n r, ns[k]? = some n -> (dR E fs ns)[k]? = some r -> x9.drop k = fC n r :: x9.drop (k + 1) /\ (n.form = 4 -> 0 <= r)) (TZ : x9.length = ns.length) (Eu : iY [] x9) :
  Calls Tryz.prog 35 #[aK (.slice x1 n1 c1) (.slice x2 n2 c2)] w fun e w' => ∃ y1 m1 d1 y2 m2 d2, e = .returned (.agg #[.slice y1 m1 d1, .slice y2 m2 d2]) /\ vQ w' ⟨.slice y1 m1 d1, .slice y2 m2 d2, dR E fs ns, ig (bz [] x9) ns n0 fs.length⟩ /\ Below w.heap.size w w' := by
 have hrl : (dR E fs ns).length = ns.length := by unfold dR; rw [List.length_map]
 have lg : (ig (bz [] x9) ns n0 fs.length).length = fs.length := by unfold ig; rw [List.length_map, List.length_range]
 have hfl : fs.length <= 9000 := by have := nL E (bD ns op); rw [kF, ho.1] at this; rw [hfs]; omega
 have Qd := fun (W : World) (hb : Below w.heap.size w W) => x8 W x1 n1 c1 x2 n2 c2 ns op (hT.below hb) ho hl sj n0 h0 hB hat hsz E fs hE hfs
 have hne := fun (W : World) (hb : Below w.heap.size w W) (rv : Value) (BP : W.ownsRow 0 3 1 rv (dR E fs ns).length (fX (dR E fs ns))) => BO W x1 n1 c1 x2 n2 c2 ns op (hT.below hb) hl sj n0 h0 rv (dR E fs ns) BP hrl fs.length hfl x9 h2 TZ Eu
 unfold aK at Qd hne
 unfold aK
 have NT : Hid _ := Qd
 have Jy : Hid _ := hne
 have JT : Hid _ := hrl
 have HNL : Hid _ := lg
 generalize ig (bz [] x9) ns n0 fs.length = news at *
 generalize dR E fs ns = regs at *
 generalize fs.length = cn at *
 generalize ns.length = m at *
 clear Qd hne hrl lg hT ho sj h0 hat hsz hE hfs h2 TZ Eu
 obtain ⟨WB, pY⟩ : ∃ WB, WB = (w.alloc (.cells #[.slice x1 n1 c1, .slice x2 n2 c2] 59)).alloc (.cells #[.slice none 0 0, .slice none 0 0] 73) := ⟨_, rfl⟩
 have hBX : Below w.heap.size w WB := by rw [pY]; exact cz (cz (Below.refl _ _) _) _
 have o9 : WB.heap[w.heap.size]? = some (.cells #[.slice x1 n1 c1, .slice x2 n2 c2] 59 (0, 0)) := by
  have h2 := cz (Below.refl (w.alloc (.cells #[.slice x1 n1 c1, .slice x2 n2 c2] 59)).heap.size (w.alloc (.cells #[.slice x1 n1 c1, .slice x2 n2 c2] 59))) (.cells #[.slice none 0 0, .slice none 0 0] 73)
  rw [pY, h2.block _ (by simp)]; exact aj _ _
 have hk1 : WB.heap[w.heap.size + 1]? = some (.cells #[.slice none 0 0, .slice none 0 0] 73 (0, 0)) := by
  have := aj (w.alloc (.cells #[.slice x1 n1 c1, .slice x2 n2 c2] 59)) (.cells #[.slice none 0 0, .slice none 0 0] 73 (0, 0))
  rw [pY]; simpa using this
 have dK : Hid _ := hBX
 have JQ : Hid _ := o9
 have DN : Hid _ := hk1
 have M5 : Hid _ := pY
 have lh : w.heap.size + 1 < WB.heap.size := af hk1
 clear hBX o9 hk1 pY
 go_enter Tryz.func35, Tryz.ntmps35
 go_wp2_with fail
 rw [<- M5.out]
 refine Calls.mono (NT.out WB dK.out) ?_
 rintro _ w1 ⟨rv, rfl, hr1, hb1⟩
 have hk := (hb1.block _ (af JQ.out)).trans JQ.out
 have a0 : w1.cell? ⟨w.heap.size, 0, none⟩ = some (.slice x1 n1 c1) := by rw [aa hk]; rfl
 have a1 : w1.cell? ⟨w.heap.size, 1, none⟩ = some (.slice x2 n2 c2) := by rw [aa hk]; rfl
 have al := af hk
 have St : w1.ownsRow 0 3 1 rv regs.length (fX regs) := by rw [JT.out]; exact cY hr1 (fun _ _ => Nat.zero_le _)
 have hnc := Jy.out w1 (dK.out.trans (hb1.mono dK.out.size)) rv St
 obtain ⟨y1, d1, BP⟩ := aF hr1
 subst BP
 have M8 : Hid _ := hr1
 have ZJ : Hid _ := St
 have dF : Hid _ := hb1
 clear hk St hr1 hb1 NT Jy
 go_wp2_with fail
 refine Calls.mono hnc ?_
 rintro _ w2 ⟨av, rfl, ez, hb2⟩
 have NU : Hid _ := aA ZJ.out hb2
 have kZ := dF.out.trans (hb2.mono dF.out.size)
 have hk2 := (kZ.block _ (af DN.out)).trans DN.out
 have r0 : w2.cell? ⟨w.heap.size + 1, 0, none⟩ = some (.slice none 0 0) := by rw [aa hk2]; rfl
 have r1 : w2.cell? ⟨w.heap.size + 1, 1, none⟩ = some (.slice none 0 0) := by rw [aa hk2]; rfl
 have f0 := ag hk2 0
 have f1 := ag hk2 1
 have rl := af hk2
 obtain ⟨y2, d2, VY⟩ := aF ez
 subst VY
 have HN2 : Hid _ := ez
 have dN : Hid _ := dK.out.trans (kZ.mono dK.out.size)
 have nk : Hid _ := hk2
 have Ru := hb2.size
 have hW1 := dF.out.size
 clear hb2 ez kZ hk2 hnc a0 a1 al
 go_wp2
 obtain ⟨WF, M9⟩ : ∃ WF, WF = (w2.setCell ⟨w.heap.size + 1, 0, none⟩ (.slice y1 m d1)).setCell ⟨w.heap.size + 1, 1, none⟩ (.slice y2 cn d2) := ⟨_, rfl⟩
 have hF : WF.heap[w.heap.size + 1]? = some (.cells #[.slice y1 m d1, .slice y2 cn d2] 73 (0, 0)) := by rw [M9]; exact az (az nk.out 0 _) 1 _
 have u0 : WF.cell? ⟨w.heap.size + 1, 0, none⟩ = some (.slice y1 m d1) := by rw [aa hF]; rfl
 have u1 : WF.cell? ⟨w.heap.size + 1, 1, none⟩ = some (.slice y2 cn d2) := by rw [aa hF]; rfl
 rw [<- M9]
 refine bodyPost_ret (v := .agg #[.slice y1 m d1, .slice y2 cn d2]) (by simp [results, Tryz.results35, go_sem, u0, u1]) rfl ⟨_, _, _, _, _, _, rfl, ⟨?_, ?_⟩, ?_⟩
 ·rw [M9]
  refine ax NU.out (fun k hk => ?_)
  have h1 := (World.ownsRow.lt M8.out k hk).1
  rw [ak _ _ (by simp only; omega), ak _ _ (by simp only; omega)]
 ·rw [M9]
  have hn := cY HN2.out (base' := 0) (fun _ _ => Nat.zero_le _)
  simp only
  rw [HNL.out]
  refine ax hn (fun k hk => ?_)
  have h1 := (World.ownsRow.lt HN2.out k hk).1
  rw [ak _ _ (by simp only; omega), ak _ _ (by simp only; omega)]
 ·rw [M9]
  exact dN.out.trans (eF (eF (Below.refl _ _) (by omega)) (by omega))
open Go.Lib (decDigits)
def sS (t : Tk) : Prop := t.c = .Ft -> 0 <= au t.s /\ au t.s <= 999
theorem Su (l : List UInt8) : (aJ l).2 = .Ft -> 0 <= au (l.take (aJ l).1) /\ au (l.take (aJ l).1) <= 999 := by
 unfold aJ
 split
 ·intro h
  simp only [dX] at h
  split at h
  ·simp at h
  ·split at h <;> simp at h
 ·split
  ·intro h
   simp only at h
   split at h <;> simp at h
  ·split
   ·simp
   ·rename_i c r _ _
    split
    ·rename_i hc
     intro h
     simp only at h
     split at h
     ·rename_i hn
      simp only [bY, Bool.and_eq_true, decide_eq_true_eq] at hn
      have hf := vI (r.take (run 48 57 r)) 0 (fun c hc => vH 48 57 r c hc) (by omega)
      have hp : 10 ^ (r.take (run 48 57 r)).length <= 10 ^ 3 := Nat.pow_le_pow_right (by omega) hn.1.2
      simp only [List.take_succ_cons]
      unfold au
      rw [List.foldl_cons, if_pos hc]
      omega
     ·simp at h
    ·intro h
     simp only at h
     split at h
     ·simp at h
     ·split at h <;> simp at h
theorem sU (l : List UInt8) : ∀ t ∈ tokens l, sS t := by
 intro t ht
 obtain ⟨l', _, hs, hc⟩ := rp _ _ _ t ht
 unfold sS
 rw [hs, hc]
 exact Su l'
mutual
def PT.uR : PT -> Prop
 | .num _ _ => True
 | .name _ _ => True
 | .node _ _ _ rg kids => (0 <= au rg /\ au rg <= 999) /\ wH kids
def wH : List PT -> Prop
 | [] => True
 | t :: r => t.uR /\ wH r
end
mutual
theorem PE.uR {ae : Bool} : ∀ {l : List Tk} {e : PT} {r : List Tk}, PE ae l e r -> (∀ t ∈ l, sS t) -> e.uR /\ ∀ t ∈ r, sS t
 | _, _, _, .num _, ha => ⟨by simp [PT.uR], fun x hx => ha x (by simp [hx])⟩
 | _, _, _, .name _, ha => ⟨by simp [PT.uR], fun x hx => ha x (by simp [hx])⟩
 | _, _, _, .node _ _ _ h4, ha => by
  have h := PW.uR h4 (fun x hx => ha x (by simp [hx]))
  exact ⟨by simp only [PT.uR]; exact ⟨h.1, h.2.1⟩, h.2.2⟩
theorem PW.uR {ae : Bool} : ∀ {ws : List Wt} {l : List Tk} {nm rg : List UInt8} {kids : List PT} {r : List Tk}, PW ae ws l nm rg kids r -> (∀ t ∈ l, sS t) -> (0 <= au rg /\ au rg <= 999) /\ wH kids /\ ∀ t ∈ r, sS t
 | _, _, _, _, _, _, .nil, ha => ⟨by decide, by simp [wH], ha⟩
 | _, _, _, _, _, _, .close _ h1, ha => PW.uR h1 (fun x hx => ha x (by simp [hx]))
 | _, _, _, _, _, _, .name _ h1, ha => PW.uR h1 (fun x hx => ha x (by simp [hx]))
 | _, _, _, _, _, _, .region (t := t) h h1, ha => by
  have h' := PW.uR h1 (fun x hx => ha x (by simp [hx]))
  exact ⟨ha t (by simp) h, h'.2⟩
 | _, _, _, _, _, _, .e h0 h1, ha => by
  have a := PE.uR h0 ha
  have b := PW.uR h1 a.2
  exact ⟨b.1, by simp only [wH]; exact ⟨a.1, b.2.1⟩, b.2.2⟩
end
mutual
theorem F6 : ∀ t : PT, t.uR -> ∀ x ∈ t.DE, 0 <= au x.2 /\ au x.2 <= 999
 | .num _ _, _, x, hx => by simp [PT.DE] at hx
 | .name _ _, _, x, hx => by simp [PT.DE] at hx
 | .node p k _ rg kids, h, x, hx => by
  simp only [PT.uR] at h
  simp only [PT.DE, List.mem_append] at hx
  rcases hx with hx | hx
  ·split at hx
   ·rw [List.mem_singleton] at hx; subst hx; exact h.1
   ·simp at hx
  ·exact Cu kids h.2 x hx
theorem Cu : ∀ ts : List PT, wH ts -> ∀ x ∈ sV ts, 0 <= au x.2 /\ au x.2 <= 999
 | [], _, x, hx => by simp [sV] at hx
 | t :: r, h, x, hx => by
  simp only [wH] at h
  simp only [sV, List.mem_append] at hx
  rcases hx with hx | hx
  ·exact F6 t h.1 x hx
  ·exact Cu r h.2 x hx
end
def n8 (e : PT) : List Nat := e.DE.map (fun x => (au x.2).toNat)
theorem Lc {e : PT} (h : e.uR) : ∀ x ∈ n8 e, x < 1000 := by
 intro x hx
 unfold n8 at hx
 rw [List.mem_map] at hx
 obtain ⟨y, hy, rfl⟩ := hx
 have := F6 e h y hy
 omega
def qz (a b : dD) : Prop := a.e = b.e /\ a.at_ = b.at_
def OV (x y : Ty × dD) : Prop := x.1.bare = y.1.bare /\ qz x.2 y.2
theorem AA {a b : dD} (h : qz a b) (e p : Nat) : qz (cS a e p) (cS b e p) := by
 unfold cS
 rw [h.1]
 split
 ·exact ⟨rfl, rfl⟩
 ·exact h
theorem Ld {a b : Ty} (h : a.bare = b.bare) : a.size = b.size := by rw [<- eE a, h, eE]
theorem oR {a b : Ty} (h : a.bare = b.bare) : a = .n ↔ b = .n := by cases a <;> cases b <;> simp [Ty.bare] at h ⊢
theorem Ev {x y : Ty × dD} (h : OV x y) (id id' p : Nat) : OV (fin id p x) (fin id' p y) := by
 have hs := Ld h.1
 unfold fin
 refine ⟨h.1, ?_⟩
 simp only [qz]
 rw [h.2.1, hs]
 split
 ·exact AA h.2 6 p
 ·exact h.2
theorem n9 {st st' : dD} (hs : qz st st') (p : Nat) : OV (.n, cS st 5 p) (.n, cS st' 5 p) := ⟨rfl, AA hs 5 p⟩
theorem OW {a b c a' b' c' : Ty} {st st' : dD} {p : Nat} (hs : qz st st') (h1 : a.bare = a'.bare) (h2 : b.bare = b'.bare) (h3 : c.bare = c'.bare) : OV (if a = .n /\ b.bare = c.bare then (b, st) else (.n, cS st 5 p)) (if a' = .n /\ b'.bare = c'.bare then (b', st') else (.n, cS st' 5 p)) := by
 by_cases hc : a = .n /\ b.bare = c.bare
 ·rw [if_pos hc, if_pos ⟨(oR h1).1 hc.1, by rw [<- h2, <- h3]; exact hc.2⟩]; exact ⟨h2, hs⟩
 ·rw [if_neg hc, if_neg (fun h => hc ⟨(oR h1).2 h.1, by rw [h2, h3]; exact h.2⟩)]; exact n9 hs p
theorem OX {a b a' b' : Ty} {st st' : dD} {p : Nat} (hs : qz st st') (h1 : a.bare = a'.bare) (h2 : b.bare = b'.bare) : OV (if a = .n /\ b = .n then (.n, st) else (.n, cS st 5 p)) (if a' = .n /\ b' = .n then (.n, st') else (.n, cS st' 5 p)) := by
 by_cases hc : a = .n /\ b = .n
 ·rw [if_pos hc, if_pos ⟨(oR h1).1 hc.1, (oR h2).1 hc.2⟩]; exact ⟨rfl, hs⟩
 ·rw [if_neg hc, if_neg (fun h => hc ⟨(oR h1).2 h.1, (oR h2).2 h.2⟩)]; exact n9 hs p
theorem Le (cls iw : List Nat) (k : Kw) (p site dh : Nat) (ks ks' : List Ty) (st st' : dD) (h : ks.map Ty.bare = ks'.map Ty.bare) (hs : qz st st') : OV (bB cls k p site ks st) (bB iw k p dh ks' st') := by
 have hl : ks.length = ks'.length := by have := congrArg List.length h; simpa using this
 cases ks with
 | nil =>
  cases ks' with
  | nil => cases k <;> exact n9 hs p
  | cons a' r' => simp at hl
 | cons a r =>
  cases ks' with
  | nil => simp at hl
  | cons a' r' =>
   simp only [List.map_cons, List.cons.injEq] at h
   have ha := h.1
   have hfs : ∀ k, k = .fst \/ k = .snd -> OV (bB cls k p site (a :: r) st) (bB iw k p dh (a' :: r') st') := by
    intro k hk
    cases a with
    | n =>
     cases a' with
     | n => rcases hk with rfl | rfl <;> exact n9 hs p
     | p _ _ _ => simp [Ty.bare] at ha
    | p r1 u v =>
     cases a' with
     | n => simp [Ty.bare] at ha
     | p r2 u' v' =>
      simp only [Ty.bare, Ty.p.injEq, true_and] at ha
      rcases hk with rfl | rfl
      ·exact ⟨ha.1, hs⟩
      ·exact ⟨ha.2, hs⟩
   cases r with
   | nil =>
    cases r' with
    | cons b' r' => simp at hl
    | nil =>
     cases k <;> first | exact hfs _ (Or.inl rfl) | exact hfs _ (Or.inr rfl) | exact n9 hs p | exact ⟨ha, hs⟩
   | cons b r =>
    cases r' with
    | nil => simp at hl
    | cons b' r' =>
     simp only [List.map_cons, List.cons.injEq] at h
     have hb := h.2.1
     cases r with
     | nil =>
      cases r' with
      | cons c' r' => simp at hl
      | nil =>
       cases k <;> first | exact hfs _ (Or.inl rfl) | exact hfs _ (Or.inr rfl) | exact n9 hs p | exact OX hs ha hb | exact ⟨ha, hs⟩ | exact ⟨by simp only [bB, Ty.bare, ha, hb], hs⟩
     | cons c r =>
      cases r' with
      | nil => simp at hl
      | cons c' r' =>
       simp only [List.map_cons, List.cons.injEq] at h
       have hc := h.2.2.1
       cases r with
       | nil =>
        cases r' with
        | cons d' r' => simp at hl
        | nil =>
         cases k <;> first | exact hfs _ (Or.inl rfl) | exact hfs _ (Or.inr rfl) | exact n9 hs p | exact OW hs ha hb hc | exact ⟨ha, hs⟩
       | cons d r =>
        cases r' with
        | nil => simp at hl
        | cons d' r' => cases k <;> first | exact hfs _ (Or.inl rfl) | exact hfs _ (Or.inr rfl) | exact n9 hs p | exact ⟨ha, hs⟩
theorem tW {env env' : aQ} {nm : List UInt8} {T T' : Ty} (h : fV env = fV env') (hT : T.bare = T'.bare) : fV (env ++ [(nm, T)]) = fV (env' ++ [(nm, T')]) := by rw [iW, iW, h, hT]
mutual
theorem gG (cls iw : List Nat) : ∀ (t : PT) (id id' site dh : Nat) (env env' : aQ) (st st' : dD), fV env = fV env' -> qz st st' -> OV (aD cls t id site env st) (aD iw t id' dh env' st')
 | .num p s, id, id', site, dh, env, env', st, st', he, hs => by simp only [aD]; exact Ev (x := (.n, st)) (y := (.n, st')) ⟨rfl, hs⟩ _ _ _
 | .name p s, id, id', site, dh, env, env', st, st', he, hs => by
  simp only [aD]
  refine Ev ?_ _ _ _
  have h1 := oH env s
  have h2 := oH env' s
  rw [he, h2] at h1
  cases hl : look env s with
  | none =>
   cases hl' : look env' s with
   | none => exact ⟨rfl, AA hs 4 p⟩
   | some T' => rw [hl, hl'] at h1; simp at h1
  | some T =>
   cases hl' : look env' s with
   | none => rw [hl, hl'] at h1; simp at h1
   | some T' =>
    rw [hl, hl'] at h1
    simp only [Option.map_some, Option.some.injEq] at h1
    exact ⟨h1.symm, hs⟩
 | .node p k nm rg kids, id, id', site, dh, env, env', st, st', he, hs => by
  simp only [aD]
  refine Ev ?_ _ _ _
  by_cases hk : k = .bb
  ·rw [if_pos hk, if_pos hk]
   exact Iy cls iw nm kids _ _ _ _ env env' st st' he hs
  ·rw [if_neg hk, if_neg hk]
   have hx : (if k = .loop then aT cls nm kids (id + 1) site env st else ba cls kids (id + 1) (site + if k = .pair then 1 else 0) env st).1.map Ty.bare = (if k = .loop then aT iw nm kids (id' + 1) dh env' st' else ba iw kids (id' + 1) (dh + if k = .pair then 1 else 0) env' st').1.map Ty.bare /\ qz (if k = .loop then aT cls nm kids (id + 1) site env st else ba cls kids (id + 1) (site + if k = .pair then 1 else 0) env st).2 (if k = .loop then aT iw nm kids (id' + 1) dh env' st' else ba iw kids (id' + 1) (dh + if k = .pair then 1 else 0) env' st').2 := by
    by_cases hl : k = .loop
    ·rw [if_pos hl, if_pos hl]; exact Ew cls iw nm kids _ _ _ _ env env' st st' he hs
    ·rw [if_neg hl, if_neg hl]; exact wI cls iw kids _ _ _ _ env env' st st' he hs
   generalize (if k = .loop then aT cls nm kids (id + 1) site env st else ba cls kids (id + 1) (site + if k = .pair then 1 else 0) env st) = x at hx ⊢
   generalize (if k = .loop then aT iw nm kids (id' + 1) dh env' st' else ba iw kids (id' + 1) (dh + if k = .pair then 1 else 0) env' st') = x' at hx ⊢
   by_cases h0 : x.2.e = 0
   ·rw [if_neg (by simpa using h0), if_neg (by rw [<- hx.2.1]; simpa using h0)]
    exact Le cls iw k p site dh x.1 x'.1 x.2 x'.2 hx.1 hx.2
   ·rw [if_pos h0, if_pos (by rw [<- hx.2.1]; exact h0)]
    exact ⟨rfl, hx.2⟩
theorem wI (cls iw : List Nat) : ∀ (ts : List PT) (id id' site dh : Nat) (env env' : aQ) (st st' : dD), fV env = fV env' -> qz st st' -> (ba cls ts id site env st).1.map Ty.bare = (ba iw ts id' dh env' st').1.map Ty.bare /\ qz (ba cls ts id site env st).2 (ba iw ts id' dh env' st').2
 | [], _, _, _, _, _, _, st, st', _, hs => by simp only [ba]; exact ⟨trivial, hs⟩
 | a :: r, id, id', site, dh, env, env', st, st', he, hs => by
  simp only [ba]
  have h1 := gG cls iw a id id' site dh env env' st st' he hs
  have h2 := wI cls iw r (id + a.cnt) (id' + a.cnt) (site + a.bJ) (dh + a.bJ) env env' _ _ he h1.2
  exact ⟨by rw [List.map_cons, List.map_cons, h1.1, h2.1], h2.2⟩
theorem Iy (cls iw : List Nat) (nm : List UInt8) : ∀ (ts : List PT) (id id' site dh : Nat) (env env' : aQ) (st st' : dD), fV env = fV env' -> qz st st' -> OV (dx cls nm ts id site env st) (dx iw nm ts id' dh env' st')
 | [a, b], id, id', site, dh, env, env', st, st', he, hs => by
  simp only [dx]
  have h1 := gG cls iw a id id' site dh env env' st st' he hs
  exact gG cls iw b _ _ _ _ _ _ _ _ (tW he h1.1) h1.2
 | [], _, _, _, _, _, _, st, st', _, hs => by simp only [dx]; exact ⟨rfl, hs⟩
 | [_], _, _, _, _, _, _, st, st', _, hs => by simp only [dx]; exact ⟨rfl, hs⟩
 | _ :: _ :: _ :: _, _, _, _, _, _, _, st, st', _, hs => by simp only [dx]; exact ⟨rfl, hs⟩
theorem Ew (cls iw : List Nat) (nm : List UInt8) : ∀ (ts : List PT) (id id' site dh : Nat) (env env' : aQ) (st st' : dD), fV env = fV env' -> qz st st' -> (aT cls nm ts id site env st).1.map Ty.bare = (aT iw nm ts id' dh env' st').1.map Ty.bare /\ qz (aT cls nm ts id site env st).2 (aT iw nm ts id' dh env' st').2
 | [a, b, c], id, id', site, dh, env, env', st, st', he, hs => by
  simp only [aT]
  have h1 := gG cls iw a id id' site dh env env' st st' he hs
  have h2 := gG cls iw b (id + a.cnt) (id' + a.cnt) (site + a.bJ) (dh + a.bJ) env env' _ _ he h1.2
  have h3 := gG cls iw c (id + a.cnt + b.cnt) (id' + a.cnt + b.cnt) (site + a.bJ + b.bJ) (dh + a.bJ + b.bJ) _ _ _ _ (tW (nm := nm) he h2.1) h2.2
  exact ⟨by simp only [List.map_cons, List.map_nil]; rw [h1.1, h2.1, h3.1], h3.2⟩
 | [], _, _, _, _, _, _, st, st', _, hs => by simp only [aT]; exact ⟨trivial, hs⟩
 | [_], _, _, _, _, _, _, st, st', _, hs => by simp only [aT]; exact ⟨trivial, hs⟩
 | [_, _], _, _, _, _, _, _, st, st', _, hs => by simp only [aT]; exact ⟨trivial, hs⟩
 | _ :: _ :: _ :: _ :: _, _, _, _, _, _, _, st, st', _, hs => by simp only [aT]; exact ⟨trivial, hs⟩
end
mutual
def PT.subs : PT -> Nat -> Nat -> List (PT × Nat × Nat)
 | .num p s, id, site => [(.num p s, id, site)]
 | .name p s, id, site => [(.name p s, id, site)]
 | .node p k nm rg kids, id, site => Cv kids (id + 1) (site + if k = .pair then 1 else 0) ++ [(.node p k nm rg kids, id, site)]
def Cv : List PT -> Nat -> Nat -> List (PT × Nat × Nat)
 | [], _, _ => []
 | t :: r, id, site => t.subs id site ++ Cv r (id + t.cnt) (site + t.bJ)
end
theorem AB : ∀ (T U : Ty) (x y : List UInt8), T.txt ++ x = U.txt ++ y -> T = U /\ x = y
 | .n, .n, x, y, h => by simp [Ty.txt] at h; exact ⟨rfl, h⟩
 | .n, .p _ _ _, x, y, h => by simp [Ty.txt] at h
 | .p _ _ _, .n, x, y, h => by simp [Ty.txt] at h
 | .p r a b, .p r' a' b', x, y, h => by
  simp only [Ty.txt, List.cons_append, List.append_assoc, List.cons.injEq, true_and] at h
  have h1 := congrArg (fun l => l.takeWhile (fun c => c != 58)) h
  simp only [JX] at h1
  have hr : r = r' := by
   have := congrArg um h1
   rw [vz, vz] at this
   omega
  subst hr
  have h2 := List.append_cancel_left h
  simp only [List.cons.injEq, true_and] at h2
  obtain ⟨e1, h3⟩ := AB a a' _ _ h2
  obtain ⟨e2, h4⟩ := AB b b' _ _ h3
  simp only [List.nil_append, List.cons.injEq, true_and] at h4
  exact ⟨by rw [e1, e2], h4⟩
theorem OY {T U : Ty} (h : T.txt = U.txt) : T = U := (AB T U [] [] (by rw [h])).1
def AE (TY : List Ty) (k : Nat) : Ty := (TY[k]?).getD .n
def iy (TY : List Ty) : PT × Nat × Nat -> Nat
 | (.node _ k _ _ [a, b, _], id, _) => if (k = .fH \/ k = .loop) /\ AE TY (id + 1 + a.cnt) ≠ AE TY (id + 1 + a.cnt + b.cnt) then 9 else 0
 | (.node _ k _ rg [_], id, _) => if k = .new /\ (AE TY (id + 1)).has (au rg) = true then 10 else 0
 | _ => 0
def PT.X4 : PT -> Nat
 | .num p _ => p
 | .name p _ => p
 | .node p _ _ _ _ => p
def sW (TY : List Ty) : List (PT × Nat × Nat) -> Nat × Nat
 | [] => (0, 0)
 | x :: r => if iy TY x ≠ 0 then (iy TY x, x.1.X4) else sW TY r
theorem wJ {w : World} {base : Nat} {e : TypeId} {size : Nat} {v : Value} {n : Nat} {xs : List Value} (h : w.ownsRow base e size v n xs) : ∃ a c, v = .slice a n c := by
 rcases h.2 with ⟨h1, h2⟩ | ⟨g, cap, cur, h1, _⟩
 ·exact ⟨none, 0, by rw [h1, h2]⟩
 ·exact ⟨_, _, h1⟩
theorem uS {w : World} {base : Nat} {e : TypeId} {size : Nat} {v : Value} {n : Nat} {xs : List Value} (h : w.ownsRow base e size v n xs) {b : Nat} {arr : Array Value} {t : TypeId} {fr : Nat × Nat} (hb : w.heap[b]? = some (.cells arr t fr)) (ht : t ≠ e) : ∀ k, v.ownBlock = some k -> k ≠ b := by
 intro k hk hkb
 rcases h.2 with ⟨h1, _⟩ | ⟨g, cap, cur, h1, _, hh, _⟩
 ·rw [h1] at hk; simp [Value.ownBlock] at hk
 ·rw [h1] at hk
  simp [Value.ownBlock] at hk
  rw [hk, hkb, hb] at hh
  simp only [Option.some.injEq, Obj.cells.injEq] at hh
  exact ht hh.2.1
theorem ux (s : ByteArray) (w : World) (hs : s.size <= 9000) (e : PT) (hp : PE true (tokens s.data.toList) e []) : Calls Tryz.prog 54 #[.string s] w fun v w' => ∃ x1 n1 c1 x2 n2 c2 ns, v = .returned (.tuple #[aK (.slice x1 n1 c1) (.slice x2 n2 c2), .int .i64 0, .int .i64 0]) /\ Below w.heap.size w w' /\ bh w' (.slice x1 n1 c1) (.slice x2 n2 c2) ns (opn e 0) /\ NA [] e 0 ns /\ dc e ns (posOf s.size (tokens s.data.toList)) s.size := by
 obtain ⟨ns, bq, DA⟩ := rP (len := s.size) hp
 have hps := Ct (ae := true) (len := s.size) hp (wC s.data.toList)
 rw [DA] at hps
 have Cr := fun w => mQ s w (by omega)
 have QC : Hid _ := DA
 have Cm : Hid _ := And.intro bq hps
 clear hp bq DA hps
 go_enter Tryz.func54, Tryz.ntmps54
 go_wp2_with fail
 refine (Cr _).mono ?_
 rintro v w1 ⟨hb, hv⟩
 have hr := rA hb
 have hlt := af hr
 have HB : Hid _ := mq hb
 rcases hv with ⟨q', hq', _⟩ | ⟨_, nv, ov, rfl, hT⟩
 ·rw [QC.out] at hq'; cases hq'
 ·rw [QC.out] at hT
  simp only at hT
  obtain ⟨x1, c1, e1⟩ := wJ hT.nd
  obtain ⟨x2, c2, e2⟩ := wJ hT.op
  have Ba : Hid _ := uS hT.nd hr (by decide)
  have qQ : Hid _ := uS hT.op hr (by decide)
  subst e1
  subst e2
  have r0 : w1.cell? ⟨w.heap.size, 0, none⟩ = some (.slice none 0 0) := by rw [aa hr]; rfl
  have r1 : w1.cell? ⟨w.heap.size, 1, none⟩ = some (.slice none 0 0) := by rw [aa hr]; rfl
  have f0 := ag hr 0
  have f1 := ag hr 1
  have hW := aL (.cells #[.slice x1 ns.length c1, .slice x2 (opn e 0).length c2] 59) (az (az hr 0 (.slice x1 ns.length c1)) 1 (.slice x2 (opn e 0).length c2))
  have S0 : Hid ((((w1.setCell ⟨w.heap.size, 0, none⟩ (.slice x1 ns.length c1)).setCell ⟨w.heap.size, 1, none⟩ (.slice x2 (opn e 0).length c2)).alloc (.cells #[.slice x1 ns.length c1, .slice x2 (opn e 0).length c2] 59)).cell? ⟨w.heap.size, 0, none⟩ = some (.slice x1 ns.length c1)) := (aa hW 0).trans rfl
  have S1 : Hid ((((w1.setCell ⟨w.heap.size, 0, none⟩ (.slice x1 ns.length c1)).setCell ⟨w.heap.size, 1, none⟩ (.slice x2 (opn e 0).length c2)).alloc (.cells #[.slice x1 ns.length c1, .slice x2 (opn e 0).length c2] 59)).cell? ⟨w.heap.size, 1, none⟩ = some (.slice x2 (opn e 0).length c2)) := (aa hW 1).trans rfl
  have Wj : bh ((w1.setCell ⟨w.heap.size, 0, none⟩ (.slice x1 ns.length c1)).setCell ⟨w.heap.size, 1, none⟩ (.slice x2 (opn e 0).length c2)) (.slice x1 ns.length c1) (.slice x2 (opn e 0).length c2) ns (opn e 0) := ⟨ax hT.nd (fun k hk => by rw [ak _ _ (by simpa using Ba.out k hk), ak _ _ (by simpa using Ba.out k hk)]), ax hT.op (fun k hk => by rw [ak _ _ (by simpa using qQ.out k hk), ak _ _ (by simpa using qQ.out k hk)])⟩
  have ZK : Hid _ := Wj.below ((Below.refl _ _).alloc (Nat.le_refl _) (.cells #[.slice x1 ns.length c1, .slice x2 (opn e 0).length c2] 59))
  have hne : w.heap.size ≠ w1.heap.size := by omega
  unfold aK
  clear hT hb hr Cr hW Wj
  go_wp2
  refine bodyPost_ret (v := .tuple #[.agg #[.slice x1 ns.length c1, .slice x2 (opn e 0).length c2], .int .i64 0, .int .i64 0]) (by have s0 := S0.out; have s1 := S1.out; simp [results, Tryz.results54, go_sem, s0, s1]) rfl ⟨x1, ns.length, c1, x2, (opn e 0).length, c2, ns, rfl, ?_, ZK.out, Cm.out⟩
  exact ((HB.out.setCell (p := ⟨w.heap.size, 0, none⟩) (Nat.le_refl _) _).setCell (p := ⟨w.heap.size, 1, none⟩) (Nat.le_refl _) _).alloc (by have := HB.out.size; simp [World.setCell]; omega) _
theorem wK (s : ByteArray) (w : World) (hs : s.size <= 9000) (e : PT) (hp : PE true (tokens s.data.toList) e []) : Calls Tryz.prog 42 #[.string s] w fun v w' => ∃ x1 n1 c1 x2 n2 c2 ns, v = .returned (.tuple #[aK (.slice x1 n1 c1) (.slice x2 n2 c2), .int .i64 (cx e).1, .int .i64 (cx e).2]) /\ Below w.heap.size w w' /\ bh w' (.slice x1 n1 c1) (.slice x2 n2 c2) ns (opn e 0) /\ NA [] e 0 ns /\ dc e ns (posOf s.size (tokens s.data.toList)) s.size := by
 have o6 := iZ hp
 have Cr := fun w => ux s w hs e hp
 have jm := fun (w : World) (nv ov : Value) (ns : List NR) (bq : NA [] e 0 ns) (h : bh w nv ov ns (opn e 0)) => nJ w nv ov ns (opn e 0) h (yI bq) (by have := bq.len; omega) (bq.small (fun _ h => by simp at h) (by omega)) (fun j n hj => by have := bq.back j n hj; simpa using this)
 unfold aK at Cr
 have A6 : Hid _ := jm
 have Wk : Hid _ := Cr
 clear hp jm Cr
 obtain ⟨ans, cN⟩ : ∃ ans, ans = cx e := ⟨_, rfl⟩
 rw [<- cN]
 have jT : Hid _ := cN
 clear cN
 go_enter Tryz.func42, Tryz.ntmps42
 go_wp2_with fail
 refine (Wk.out _).mono ?_
 rintro _ w1 ⟨x1, n1, c1, x2, n2, c2, ns, rfl, hb, hT, bq⟩
 have hr := rA hb
 have hlt := af hr
 have HB : Hid _ := mq hb
 have HR : Hid _ := hr
 have Ba : Hid _ := uS hT.nd hr (by decide)
 have qQ : Hid _ := uS hT.op hr (by decide)
 have lS := hT.below ((Below.refl _ w1).alloc (Nat.le_refl _) (.cells #[.slice x1 n1 c1, .slice x2 n2 c2] 59))
 have jm := A6.out (w1.alloc (.cells #[.slice x1 n1 c1, .slice x2 n2 c2] 59)) _ _ ns bq.1 lS
 rw [vL bq.1, <- jT.out] at jm
 have Cm : Hid _ := bq
 unfold aK at jm
 clear hT hb hr Wk A6 bq
 go_wp2_with fail
 refine jm.mono ?_
 rintro _ w2 ⟨rfl, hb2⟩
 have Cs : Hid _ := lS.below hb2
 have hk := rA hb2
 have k0 : w2.cell? ⟨w1.heap.size, 0, none⟩ = some (.slice x1 n1 c1) := by rw [aa hk]; rfl
 have k1 : w2.cell? ⟨w1.heap.size, 1, none⟩ = some (.slice x2 n2 c2) := by rw [aa hk]; rfl
 have ez : w2.heap[w.heap.size]? = some (.cells #[.slice none 0 0, .slice none 0 0] 59 (0, 0)) := by
  rw [hb2.block _ (by simp; omega)]; exact aL _ HR.out
 have r0 : w2.cell? ⟨w.heap.size, 0, none⟩ = some (.slice none 0 0) := by rw [aa ez]; rfl
 have r1 : w2.cell? ⟨w.heap.size, 1, none⟩ = some (.slice none 0 0) := by rw [aa ez]; rfl
 have f0 := ag ez 0
 have f1 := ag ez 1
 have kZ : Below w.heap.size w w2 := HB.out.trans ((mq hb2).mono HB.out.size)
 have dN : Hid _ := kZ
 have hne : w.heap.size ≠ w1.heap.size := by omega
 clear hk ez hb2 kZ jm lS
 go_wp2
 refine bodyPost_ret (v := .tuple #[.agg #[.slice x1 n1 c1, .slice x2 n2 c2], .int .i64 ans.1, .int .i64 ans.2]) (by simp [results, Tryz.results42, go_sem, r0, r1]) rfl ⟨x1, n1, c1, x2, n2, c2, ns, rfl, ?_, ⟨ax Cs.out.nd (fun k hk => by rw [ak _ _ (by simpa using Ba.out k hk), ak _ _ (by simpa using Ba.out k hk)]), ax Cs.out.op (fun k hk => by rw [ak _ _ (by simpa using qQ.out k hk), ak _ _ (by simpa using qQ.out k hk)])⟩, Cm.out⟩
 exact (dN.out.setCell (p := ⟨w.heap.size, 0, none⟩) (Nat.le_refl _) _).setCell (p := ⟨w.heap.size, 1, none⟩) (Nat.le_refl _) _
theorem Cw (s : ByteArray) (w : World) (e : PT) (y : Nat) (ans : Nat × Nat) (Sv : ∀ w, Calls Tryz.prog 42 #[.string s] w fun v w' => ∃ x1 n1 c1 x2 n2 c2 ns, v = .returned (.tuple #[aK (.slice x1 n1 c1) (.slice x2 n2 c2), .int .i64 0, .int .i64 y]) /\ Below w.heap.size w w' /\ bh w' (.slice x1 n1 c1) (.slice x2 n2 c2) ns (opn e 0) /\ NA [] e 0 ns /\ dc e ns (posOf s.size (tokens s.data.toList)) s.size)
  (qR : ∀ (w' : World) (x1 : Option Addr) (n1 c1 : Nat) (x2 : Option Addr) (n2 c2 : Nat) (ns : List NR), bh w' (.slice x1 n1 c1) (.slice x2 n2 c2) ns (opn e 0) -> NA [] e 0 ns /\ dc e ns (posOf s.size (tokens s.data.toList)) s.size -> Calls Tryz.prog 56 #[aK (.slice x1 n1 c1) (.slice x2 n2 c2)] w' fun v w'' => v = .returned (.tuple #[.int .i64 ans.1, .int .i64 ans.2]) /\ Below w'.heap.size w' w'') :
  Calls Tryz.prog 30 #[.string s] w fun v w' => v = .returned (.tuple #[.int .i64 ans.1, .int .i64 ans.2]) /\ Below w.heap.size w w' := by
 unfold aK at Sv qR
 have HR : Hid _ := Sv
 have HN : Hid _ := qR
 clear Sv qR
 go_enter Tryz.func30, Tryz.ntmps30
 go_wp2_with fail
 refine (HR.out _).mono ?_
 rintro _ w1 ⟨x1, n1, c1, x2, n2, c2, ns, rfl, hb, hT, bq⟩
 have hb2 : Below w1.heap.size w1 (w1.alloc (.cells #[.slice x1 n1 c1, .slice x2 n2 c2] 59)) := (Below.refl _ w1).alloc (Nat.le_refl _) _
 have OZ : Hid _ := HN.out _ x1 n1 c1 x2 n2 c2 ns (hT.below hb2) bq
 have dN : Hid _ := hb.trans (hb2.mono hb.size)
 clear hb hT bq hb2 HR HN
 go_wp2_with fail
 refine Calls.mono OZ.out ?_
 rintro _ w3 ⟨rfl, hb3⟩
 have iI : Hid _ := dN.out.trans (hb3.mono dN.out.size)
 clear hb3 OZ dN
 go_wp2
 refine bodyPost_ret (v := .tuple #[.int .i64 ans.1, .int .i64 ans.2]) (by simp [results, Tryz.results30, go_sem]) rfl ⟨rfl, iI.out⟩
end Go.Proofs.YtpicaknklgccoaaGreatDoor
