import Derived.Test.YtpicaknklgccoaaGreatDoorS3
set_option maxHeartbeats 8000000
set_option maxRecDepth 100000
namespace Go.Proofs.YtpicaknklgccoaaGreatDoor
open Go.RowKit
structure Bk (pb k : Nat) (w : World) (sv nv ov : Value) (X : Obj) : Prop where
 b : w.heap[k]? = some X
 ne : k ≠ pb
 s : sv.ownBlock ≠ some k
 n : nv.ownBlock ≠ some k
 o : ov.ownBlock ≠ some k
theorem Bk.keep {pb k : Nat} {w w' : World} {sv nv ov fj bw fw : Value} {X : Obj} (h : Bk pb k w sv nv ov X) (hf : bu pb pb w w' sv nv ov fj bw fw) : Bk pb k w' fj bw fw X := by
 have hk := af h.b
 refine ⟨by rw [hf.blk k hk h.ne h.ne h.s h.n h.o]; exact h.b, h.ne, ?_, ?_, ?_⟩
 ·intro e; rcases hf.s k e with e | e
  ·exact h.s e
  ·omega
 ·intro e; rcases hf.n k e with e | e
  ·exact h.n e
  ·omega
 ·intro e; rcases hf.o k e with e | e
  ·exact h.o e
  ·omega
theorem Bk.new {s : ByteArray} {ae : Bool} {pb : Nat} {w : World} {sv nv ov : Value} {st : PS} (h : ee s ae pb w sv nv ov st) (X : Obj) : Bk pb w.heap.size (w.alloc X) sv nv ov X := by
 obtain ⟨l1, l2, l3, l4⟩ := h.slt
 exact ⟨aj _ _, by omega, fun e => by have := l1 _ e; omega, fun e => by have := l2 _ e; omega, fun e => by have := l3 _ e; omega⟩
theorem Bk.alloc {pb k : Nat} {w : World} {sv nv ov : Value} {X : Obj} (h : Bk pb k w sv nv ov X) (Y : Obj) : Bk pb k (w.alloc Y) sv nv ov X := ⟨aL _ h.b, h.ne, h.s, h.n, h.o⟩
theorem ee.alloc {s : ByteArray} {ae : Bool} {pb : Nat} {w : World} {sv nv ov : Value} {st : PS} (h : ee s ae pb w sv nv ov st) (Y : Obj) : ee s ae pb (w.alloc Y) sv nv ov st := h.below ((Below.refl _ w).alloc (Nat.le_refl _) Y)
theorem bu.alloc {pb nb : Nat} {w w' : World} {sv nv ov fj bw fw : Value} (h : bu pb nb w w' sv nv ov fj bw fw) (Y : Obj) : bu pb nb w (w'.alloc Y) sv nv ov fj bw fw := h.trans (bu.below pb nb fj bw fw ((Below.refl _ w').alloc (Nat.le_refl _) Y))
theorem Bk.set {s : ByteArray} {ae : Bool} {pb nb : Nat} {w : World} {sv nv ov : Value} {st : PS} {cs : Array Value} {t : TypeId} (h : Bk pb nb w sv nv ov (.cells cs t (0, 0))) (hin : ee s ae pb w sv nv ov st) (off : Nat) (v : Value) :
  bu pb nb w (w.setCell ⟨nb, off, none⟩ v) sv nv ov sv nv ov /\ ee s ae pb (w.setCell ⟨nb, off, none⟩ v) sv nv ov st /\ Bk pb nb (w.setCell ⟨nb, off, none⟩ v) sv nv ov (.cells (cs.setIfInBounds off v) t (0, 0)) := by
 have kp : ∀ k, k ≠ nb -> (w.setCell ⟨nb, off, none⟩ v).heap[k]? = w.heap[k]? := fun k hk => ak _ _ (by simpa using hk)
 obtain ⟨fr, y1, y2, y3⟩ := hin.y
 refine ⟨⟨rfl, rfl, rfl, by simp only [World.setCell, Array.size_modify]; omega, fun k _ _ hn _ _ _ => kp k hn, fun _ h => Or.inl h, fun _ h => Or.inl h, fun _ h => Or.inl h⟩, ?_, ⟨az h.b off v, h.ne, h.s, h.n, h.o⟩⟩
 exact ee.move hin st.l st.fl (fun k hk => kp k (fun e => h.s (by rw [<- e]; exact hk))) (fun k hk => kp k (fun e => h.n (by rw [<- e]; exact hk))) (fun k hk => kp k (fun e => h.o (by rw [<- e]; exact hk))) ⟨fr, y1, y2, by rw [kp pb (fun e => h.ne e.symm)]; exact y3⟩
def xS (n : NR) : Array Value := #[.int .i64 n.form, .int .i64 n.at_, .int .i64 n.aO, .int .i64 n.num, .string (bs n.word), .int .i64 n.region, .int .i64 n.source, .int .i64 n.p0, .int .i64 n.p1, .int .i64 n.p2]
abbrev bR (n : NR) : Obj := .cells (xS n) 160 (0, 0)
def Tp (T : TN) : Array Value := #[.int .i64 T.kind, .int .i64 T.at_, .int .i64 T.aO, .string (bs T.word), .int .i64 T.num]
abbrev lF (T : TN) : Obj := .cells (Tp T) 208 (0, 0)
def Xj (s : ByteArray) (ae : Bool) (pb : Nat) (fn : Nat) (more : Array Value) (f : NR -> PS -> NR × PS) (m : Nat) : Prop :=
 ∀ (nb : Nat) (w : World) (sv nv ov : Value) (st : PS) (n : NR), ee s ae pb w sv nv ov st -> Bk pb nb w sv nv ov (bR n) -> st.l.length <= m -> Nj st -> Calls Tryz.prog fn (#[ptr pb, ptr nb] ++ more) w fun v w' => v = .returned (.tuple #[]) /\
  ∃ fj bw fw, bu pb nb w w' sv nv ov fj bw fw /\ ee s ae pb w' fj bw fw (f n st).2 /\ Bk pb nb w' fj bw fw (bR (f n st).1)
theorem xF (s : ByteArray) (ae : Bool) (pb m : Nat) (hs : s.size <= 9000) : Xj s ae pb 200 #[] (fun n st => jR s.size n st) m := by
 intro nb w sv nv ov st n h hb _ _
 have hex := kT s ae pb w sv nv ov st 6 hs h
 unfold jR
 obtain ⟨T, hT⟩ : ∃ T, T = eM s.size st.l := ⟨_, rfl⟩
 rw [<- hT] at hex
 have HT : Hid _ := hT
 clear hT
 unfold gV ptr at hex
 simp only [Array.append_empty]
 show Calls _ _ #[Value.pointer (some ⟨pb, 0, none⟩), Value.pointer (some ⟨nb, 0, none⟩)] w _
 have HB : Hid _ := hb
 clear h hb
 go_enter Tryz.func200, Tryz.ntmps200
 go_wp2_with fail
 refine hex.mono ?_
 rintro _ w1 ⟨rfl, hfr, hin⟩
 have hb1 := HB.out.keep hfr
 have c5 : w1.cell? ⟨nb, 5, none⟩ = some (.int .i64 n.region) := by rw [aa hb1.b]; rfl
 have f5 : w1.frozen? ⟨nb, 5, none⟩ = false := ag hb1.b 5
 have hne := af hb1.b
 obtain ⟨s1, s2, s3⟩ := hb1.set hin 5 (.int .i64 T.num)
 have HF : Hid (bu pb nb w _ sv nv ov sv nv ov) := (hfr.nb (nb := nb)).trans s1
 have H2 : Hid _ := s2
 have H3 : Hid _ := s3
 clear s1 s2 s3 hfr hin hb1 hex
 go_wp2
 refine bodyPost_end (v := .tuple #[]) (by simp [results, Tryz.results200, go_sem]) rfl ⟨rfl, _, _, _, HF.out.alloc _, H2.out.alloc _, by rw [<- HT.out]; exact H3.out.alloc _⟩
def jC (pE : PS -> Int × PS) (n : NR) (st : PS) : Nat -> NR × PS
 | 0 => (n, st)
 | 1 => u7 pE n st
 | 2 => tH pE n st
 | _ => Bh pE n st
theorem ot (s : ByteArray) (ae : Bool) (pb : Nat) (pE : PS -> Int × PS) (m c : Nat) (hc : c <= 3) (hE : SP s ae pb pE m) (hG : jK pE m) : Xj s ae pb 201 #[.int .i64 c] (fun n st => jC pE n st c) m := by
 intro nb w sv nv ov st n h hb hm gB
 have hg1 := uN hG n st hm
 have hg2 := rE hG n st hm
 have hgl : ∀ k, k <= 2 -> (jC pE n st k).2.l.length <= m /\ Ya (jC pE n st k).2 := by
  intro k hk
  match k, hk with
  | 0, _ => exact ⟨hm, gB.to (Gs.refl st) (by omega)⟩
  | 1, _ => exact ⟨Nat.le_trans hg1.l hm, gB.to hg1 (by omega)⟩
  | 2, _ => exact ⟨Nat.le_trans hg2.l hm, gB.to hg2 (by omega)⟩
 have jV : ∀ k, k < 3 -> jC pE n st (k + 1) = (if k = 0 then { (jC pE n st k).1 with p0 := (pE (jC pE n st k).2).1 } else if k = 1 then { (jC pE n st k).1 with p1 := (pE (jC pE n st k).2).1 } else { (jC pE n st k).1 with p2 := (pE (jC pE n st k).2).1 }, (pE (jC pE n st k).2).2) := by
  intro k hk
  match k, hk with
  | 0, _ => rfl
  | 1, _ => rfl
  | 2, _ => rfl
 have SQ := fun w sv nv ov st h hm hb => hE w sv nv ov st h hm hb
 unfold ptr at SQ
 have HE : Hid _ := SQ
 have Xk : Hid _ := hgl
 have o7 : Hid _ := jV
 have HB : Hid _ := hb
 have HH : Hid _ := h
 clear hg1 hg2 hgl jV hb h hE hG SQ gB
 show Calls _ _ #[Value.pointer (some ⟨pb, 0, none⟩), Value.pointer (some ⟨nb, 0, none⟩), .int .i64 c] w _
 go_enter Tryz.func201, Tryz.ntmps201
 go_wp2
 go_loopw [6, 7] (fun i _ wr => ∃ k : Nat, k <= c /\ i = .int .i64 k /\ ∃ fj bw fw, bu pb nb w wr sv nv ov fj bw fw /\ ee s ae pb wr fj bw fw (jC pE n st k).2 /\ Bk pb nb wr fj bw fw (bR (jC pE n st k).1)) (fun i _ _ => c - (intOf i).toNat)
 case atStart => exact ⟨0, by omega, rfl, sv, nv, ov, bu.refl _ _ _ _ _ _, HH.out, HB.out⟩
 case round =>
  obtain ⟨k, hk, rfl, xZ, sr, uq, qo, mr, hb1⟩ := hrel
  by_cases hlt : k < c
  ·have pL : k < 3 := by omega
   obtain ⟨hl1, hd1⟩ := Xk.out k (by omega)
   have hx := HE.out wr xZ sr uq _ mr hl1 hd1
   have hnk := o7.out k pL
   have Hz : Hid _ := qo
   have dF : Hid _ := hb1
   have Us : Hid _ := hnk
   clear qo mr hb1 hl1 hd1 hnk
   go_wp2_with fail
   refine hx.mono ?_
   rintro _ w2 ⟨rfl, FW, cq, Ed, cO, bf⟩
   have hb2 := dF.out.keep cO
   have cj : Hid _ := Hz.out.trans (cO.nb (nb := nb))
   have vT : Hid _ := bf
   have dN : Hid _ := hb2
   clear cO bf hx dF Hz
   generalize (pE (jC pE n st k).2).1 = part at *
   obtain ⟨s1, s2, s3⟩ := dN.out.set vT.out (7 + k) (.int .i64 part)
   have c7 : w2.cell? ⟨nb, 7, none⟩ = some (.int .i64 (jC pE n st k).1.p0) := by rw [aa hb2.b]; rfl
   have c8 : w2.cell? ⟨nb, 8, none⟩ = some (.int .i64 (jC pE n st k).1.p1) := by rw [aa hb2.b]; rfl
   have c9 : w2.cell? ⟨nb, 9, none⟩ = some (.int .i64 (jC pE n st k).1.p2) := by rw [aa hb2.b]; rfl
   have f7 := ag hb2.b 7
   have f8 := ag hb2.b 8
   have f9 := ag hb2.b 9
   have H1 : Hid _ := s1
   have H2 : Hid _ := s2
   have H3 : Hid _ := s3
   clear s1 s2 s3 hb2
   rcases (by omega : k = 0 \/ k = 1 \/ k = 2) with rfl | rfl | rfl
   ·go_wp2
    go_roundw
    case rel => exact ⟨1, by omega, rfl, FW, cq, Ed, cj.out.trans H1.out, by rw [Us.out]; exact H2.out, by rw [Us.out]; exact H3.out⟩
    case measure => simp [intOf]; omega
   ·go_wp2
    go_roundw
    case rel => exact ⟨2, by omega, rfl, FW, cq, Ed, cj.out.trans H1.out, by rw [Us.out]; exact H2.out, by rw [Us.out]; exact H3.out⟩
    case measure => simp [intOf]; omega
   ·go_wp2
    go_roundw
    case rel => exact ⟨3, by omega, rfl, FW, cq, Ed, cj.out.trans H1.out, by rw [Us.out]; exact H2.out, by rw [Us.out]; exact H3.out⟩
    case measure => simp [intOf]; omega
  ·have hkc : k = c := by omega
   have dO : Hid _ := qo
   have HI1 : Hid _ := mr
   have dF : Hid _ := hb1
   have Uh : Hid _ := hkc
   clear qo mr hb1 hkc
   go_wp2
   refine bodyPost_end (v := .tuple #[]) (by simp [results, Tryz.results201, go_sem]) rfl ⟨rfl, _, _, _, dO.out, ?_, ?_⟩
   ·rw [<- Uh.out]; exact HI1.out
   ·rw [<- Uh.out]; exact dF.out
theorem Bk.Xl {s : ByteArray} {ae : Bool} {pb nb : Nat} {w : World} {sv nv ov : Value} {st : PS} {n : NR} (h : Bk pb nb w sv nv ov (bR n)) (hin : ee s ae pb w sv nv ov st) (u : List UInt8) (a b c : Int) :
  bu pb nb w ((((w.setCell ⟨nb, 4, none⟩ (.string (bs u))).setCell ⟨nb, 7, none⟩ (.int .i64 a)).setCell ⟨nb, 8, none⟩ (.int .i64 b)).setCell ⟨nb, 9, none⟩ (.int .i64 c)) sv nv ov sv nv ov /\
  ee s ae pb ((((w.setCell ⟨nb, 4, none⟩ (.string (bs u))).setCell ⟨nb, 7, none⟩ (.int .i64 a)).setCell ⟨nb, 8, none⟩ (.int .i64 b)).setCell ⟨nb, 9, none⟩ (.int .i64 c)) sv nv ov st /\
  Bk pb nb ((((w.setCell ⟨nb, 4, none⟩ (.string (bs u))).setCell ⟨nb, 7, none⟩ (.int .i64 a)).setCell ⟨nb, 8, none⟩ (.int .i64 b)).setCell ⟨nb, 9, none⟩ (.int .i64 c)) sv nv ov (bR { n with word := u, p0 := a, p1 := b, p2 := c }) := by
 obtain ⟨a1, a2, a3⟩ := h.set hin 4 (.string (bs u))
 obtain ⟨b1, b2, b3⟩ := a3.set a2 7 (.int .i64 a)
 obtain ⟨c1, c2, c3⟩ := b3.set b2 8 (.int .i64 b)
 obtain ⟨d1, d2, d3⟩ := c3.set c2 9 (.int .i64 c)
 exact ⟨((a1.trans b1).trans c1).trans d1, d2, d3⟩
theorem Di {w : World} {nb : Nat} {n : NR} (h : w.heap[nb]? = some (bR n)) : w.cell? ⟨nb, 4, none⟩ = some (.string (bs n.word)) /\ w.cell? ⟨nb, 7, none⟩ = some (.int .i64 n.p0) /\ w.cell? ⟨nb, 8, none⟩ = some (.int .i64 n.p1) /\ w.cell? ⟨nb, 9, none⟩ = some (.int .i64 n.p2) :=
 ⟨by rw [aa h]; rfl, by rw [aa h]; rfl, by rw [aa h]; rfl, by rw [aa h]; rfl⟩
theorem Dj (s : ByteArray) (ae : Bool) (pb : Nat) (pE : PS -> Int × PS) (m : Nat) (hs : s.size <= 9000) (hE : SP s ae pb pE m) (hG : jK pE m) : Xj s ae pb 198 #[] (fun n st => Nu s.size pE n st) m := by
 intro nb w sv nv ov st n h hb hm gB
 have hex := kT s ae pb w sv nv ov st 4 hs h
 have g1 := gJ s.size 4 st
 have g1l := g1.l
 have g2 := rD hG (st.expect s.size 4) (by omega)
 have g2l := g2.l
 have hx := fun w sv nv ov h => hE w sv nv ov (st.expect s.size 4) h (by omega) (gB.to g1 (by omega))
 have EE := fun w sv nv ov u src h => CM s ae pb pE m hE hG w sv nv ov (pE (st.expect s.size 4)).2 u src (by omega) (by rw [(g1.trans g2).sc]; have := gB.1; omega) (gB.to (g1.trans g2) (by omega)) h
 have hres : Nu s.size pE n st = ({ n with word := (eM s.size st.l).word, p0 := (pE (st.expect s.size 4)).1, p1 := (eO pE (eM s.size st.l).word (pE (st.expect s.size 4)).1 (pE (st.expect s.size 4)).2).1, p2 := -1 }, (eO pE (eM s.size st.l).word (pE (st.expect s.size 4)).1 (pE (st.expect s.size 4)).2).2) := rfl
 simp only [hres]
 clear hres
 generalize eM s.size st.l = T at *
 generalize st.expect s.size 4 = st1 at *
 generalize pE st1 = X at *
 generalize hY : eO pE T.word X.1 X.2 = Y at *
 have A4 := fun w sv nv ov h => EE w sv nv ov T.word X.1 h
 rw [hY] at A4
 unfold gV ptr at hex
 unfold ptr at hx A4
 simp only [Array.append_empty]
 show Calls _ _ #[Value.pointer (some ⟨pb, 0, none⟩), Value.pointer (some ⟨nb, 0, none⟩)] w _
 have HB : Hid _ := hb
 have HX : Hid _ := hx
 have Xm : Hid _ := A4
 clear h hb hx EE A4 g1 g2 g1l g2l hE hG gB hY
 go_enter Tryz.func198, Tryz.ntmps198
 go_wp2_with fail
 refine hex.mono ?_
 rintro _ w1 ⟨rfl, hfr, hin⟩
 have hb1 := (HB.out.keep hfr).alloc (lF T)
 have lS := Bk.new hin (lF T)
 have hx1 := HX.out _ _ _ _ (hin.alloc (lF T))
 have dO : Hid _ := hfr.alloc (lF T)
 have dF : Hid _ := hb1
 have Xn : Hid _ := lS
 clear hfr hin hb1 lS hex HB HX
 unfold lF Tp at hx1
 go_wp2_with fail
 refine hx1.mono ?_
 rintro _ w2 ⟨rfl, FW, cq, Ed, cO, bf⟩
 have hb2 := dF.out.keep cO
 have qX := Xn.out.keep cO
 have QV := Xm.out _ _ _ _ bf
 have cj : Hid _ := dO.out.trans cO
 have dN : Hid _ := hb2
 have Cs : Hid _ := qX
 have d3 : w2.cell? ⟨w1.heap.size, 3, none⟩ = some (.string (bs T.word)) := by rw [aa qX.b]; rfl
 clear cO bf hb2 qX hx1 dF Xn dO Xm
 go_wp2_with fail
 refine QV.mono ?_
 rintro _ w3 ⟨rfl, sv3, AJ, ov3, bM, dV⟩
 have hb3 := dN.out.keep bM
 have LX := Cs.out.keep bM
 have e3 : w3.cell? ⟨w1.heap.size, 3, none⟩ = some (.string (bs T.word)) := by rw [aa LX.b]; rfl
 obtain ⟨c4, c7, c8, c9⟩ := Di hb3.b
 have f4 := ag hb3.b 4
 have f7 := ag hb3.b 7
 have f8 := ag hb3.b 8
 have f9 := ag hb3.b 9
 obtain ⟨r1, r2, r3⟩ := hb3.Xl dV T.word X.1 Y.1 (-1)
 have M8 : Hid _ := (cj.out.nb (nb := nb)).trans ((bM.nb (nb := nb)).trans r1)
 have NU : Hid _ := r2
 have Dy : Hid _ := r3
 clear bM dV hb3 LX r1 r2 r3 QV dN Cs cj d3
 go_wp2
 refine bodyPost_end (v := .tuple #[]) (by simp [results, Tryz.results198, go_sem]) rfl ⟨rfl, _, _, _, M8.out, NU.out, Dy.out⟩
theorem A5 (s : ByteArray) (ae : Bool) (pb : Nat) (pE : PS -> Int × PS) (m : Nat) (hs : s.size <= 9000) (hE : SP s ae pb pE m) (hG : jK pE m) : Xj s ae pb 199 #[] (fun n st => Fw s.size pE n st) m := by
 intro nb w sv nv ov st n h hb hm gB
 have ht := hE w sv nv ov st h hm (gB.to (Gs.refl st) (by omega))
 have g0 := rD hG st hm
 have g0l := g0.l
 have hex := fun w sv nv ov h => kT s ae pb w sv nv ov (pE st).2 4 hs h
 have g1 := gJ s.size 4 (pE st).2
 have g1l := g1.l
 have g2 := rD hG ((pE st).2.expect s.size 4) (by omega)
 have g2l := g2.l
 have hx := fun w sv nv ov h => hE w sv nv ov ((pE st).2.expect s.size 4) h (by omega) (gB.to (g0.trans g1) (by omega))
 have EE := fun w sv nv ov u src h => CM s ae pb pE m hE hG w sv nv ov (pE ((pE st).2.expect s.size 4)).2 u src (by omega) (by rw [((g0.trans g1).trans g2).sc]; have := gB.1; omega) (gB.to ((g0.trans g1).trans g2) (by omega)) h
 have hres : Fw s.size pE n st = ({ n with word := (eM s.size (pE st).2.l).word, p0 := (pE st).1, p1 := (pE ((pE st).2.expect s.size 4)).1, p2 := (eO pE (eM s.size (pE st).2.l).word (pE ((pE st).2.expect s.size 4)).1 (pE ((pE st).2.expect s.size 4)).2).1 }, (eO pE (eM s.size (pE st).2.l).word (pE ((pE st).2.expect s.size 4)).1 (pE ((pE st).2.expect s.size 4)).2).2) := rfl
 simp only [hres]
 clear hres
 generalize pE st = Z at *
 generalize eM s.size Z.2.l = T at *
 generalize Z.2.expect s.size 4 = st1 at *
 generalize pE st1 = X at *
 generalize hY : eO pE T.word X.1 X.2 = Y at *
 have A4 := fun w sv nv ov h => EE w sv nv ov T.word X.1 h
 rw [hY] at A4
 unfold gV ptr at hex
 unfold ptr at hx A4 ht
 simp only [Array.append_empty]
 show Calls _ _ #[Value.pointer (some ⟨pb, 0, none⟩), Value.pointer (some ⟨nb, 0, none⟩)] w _
 have HB : Hid _ := hb
 have HX : Hid _ := hx
 have Bj : Hid _ := hex
 have Xm : Hid _ := A4
 clear h hb hx EE A4 g0 g1 g2 g0l g1l g2l hE hG gB hY hex
 go_enter Tryz.func199, Tryz.ntmps199
 go_wp2_with fail
 refine ht.mono ?_
 rintro _ w0 ⟨rfl, sv0, nv0, ov0, Hx, Kp⟩
 have hex := Bj.out _ _ _ _ Kp
 have wX : Hid _ := Hx
 have DD : Hid _ := HB.out.keep Hx
 clear Hx Kp ht HB Bj
 go_wp2_with fail
 refine hex.mono ?_
 rintro _ w1 ⟨rfl, hfr, hin⟩
 have hb1 := (DD.out.keep hfr).alloc (lF T)
 have lS := Bk.new hin (lF T)
 have hx1 := HX.out _ _ _ _ (hin.alloc (lF T))
 have dO : Hid _ := wX.out.trans (hfr.alloc (lF T))
 have dF : Hid _ := hb1
 have Xn : Hid _ := lS
 clear hfr hin hb1 lS hex DD HX wX
 unfold lF Tp at hx1
 go_wp2_with fail
 refine hx1.mono ?_
 rintro _ w2 ⟨rfl, FW, cq, Ed, cO, bf⟩
 have hb2 := dF.out.keep cO
 have qX := Xn.out.keep cO
 have QV := Xm.out _ _ _ _ bf
 have cj : Hid _ := dO.out.trans cO
 have dN : Hid _ := hb2
 have Cs : Hid _ := qX
 have d3 : w2.cell? ⟨w1.heap.size, 3, none⟩ = some (.string (bs T.word)) := by rw [aa qX.b]; rfl
 clear cO bf hb2 qX hx1 dF Xn dO Xm
 go_wp2_with fail
 refine QV.mono ?_
 rintro _ w3 ⟨rfl, sv3, AJ, ov3, bM, dV⟩
 have hb3 := dN.out.keep bM
 have LX := Cs.out.keep bM
 have e3 : w3.cell? ⟨w1.heap.size, 3, none⟩ = some (.string (bs T.word)) := by rw [aa LX.b]; rfl
 obtain ⟨c4, c7, c8, c9⟩ := Di hb3.b
 have f4 := ag hb3.b 4
 have f7 := ag hb3.b 7
 have f8 := ag hb3.b 8
 have f9 := ag hb3.b 9
 obtain ⟨r1, r2, r3⟩ := hb3.Xl dV T.word Z.1 X.1 Y.1
 have M8 : Hid _ := (cj.out.nb (nb := nb)).trans ((bM.nb (nb := nb)).trans r1)
 have NU : Hid _ := r2
 have Dy : Hid _ := r3
 clear bM dV hb3 LX r1 r2 r3 QV dN Cs cj d3
 go_wp2
 refine bodyPost_end (v := .tuple #[]) (by simp [results, Tryz.results199, go_sem]) rfl ⟨rfl, _, _, _, M8.out, NU.out, Dy.out⟩
theorem Fl (k : Nat) (w : World) (hk : k <= 16) : Calls Tryz.prog 189 #[.int .i64 k] w fun v w' => v = .returned (.int .i64 (cG k : Nat)) /\ w' = w := by
 match k, hk with
 | 0, _ => go_enter Tryz.func189, Tryz.ntmps189; go_wp2; go_ret; exact ⟨rfl, rfl⟩
 | 1, _ => go_enter Tryz.func189, Tryz.ntmps189; go_wp2; go_ret; exact ⟨rfl, rfl⟩
 | 2, _ => go_enter Tryz.func189, Tryz.ntmps189; go_wp2; go_ret; exact ⟨rfl, rfl⟩
 | 3, _ => go_enter Tryz.func189, Tryz.ntmps189; go_wp2; go_ret; exact ⟨rfl, rfl⟩
 | 4, _ => go_enter Tryz.func189, Tryz.ntmps189; go_wp2; go_ret; exact ⟨rfl, rfl⟩
 | 5, _ => go_enter Tryz.func189, Tryz.ntmps189; go_wp2; go_ret; exact ⟨rfl, rfl⟩
 | 6, _ => go_enter Tryz.func189, Tryz.ntmps189; go_wp2; go_ret; exact ⟨rfl, rfl⟩
 | 7, _ => go_enter Tryz.func189, Tryz.ntmps189; go_wp2; go_ret; exact ⟨rfl, rfl⟩
 | 8, _ => go_enter Tryz.func189, Tryz.ntmps189; go_wp2; go_ret; exact ⟨rfl, rfl⟩
 | 9, _ => go_enter Tryz.func189, Tryz.ntmps189; go_wp2; go_ret; exact ⟨rfl, rfl⟩
 | 10, _ => go_enter Tryz.func189, Tryz.ntmps189; go_wp2; go_ret; exact ⟨rfl, rfl⟩
 | 11, _ => go_enter Tryz.func189, Tryz.ntmps189; go_wp2; go_ret; exact ⟨rfl, rfl⟩
 | 12, _ => go_enter Tryz.func189, Tryz.ntmps189; go_wp2; go_ret; exact ⟨rfl, rfl⟩
 | 13, _ => go_enter Tryz.func189, Tryz.ntmps189; go_wp2; go_ret; exact ⟨rfl, rfl⟩
 | 14, _ => go_enter Tryz.func189, Tryz.ntmps189; go_wp2; go_ret; exact ⟨rfl, rfl⟩
 | 15, _ => go_enter Tryz.func189, Tryz.ntmps189; go_wp2; go_ret; exact ⟨rfl, rfl⟩
 | k + 17, h => exact absurd h (by omega)
 | 16, _ => go_enter Tryz.func189, Tryz.ntmps189; go_wp2; go_ret; exact ⟨rfl, rfl⟩
theorem PM (len : Nat) (l : List Tk) : (eM len l).kind <= 16 := by
 unfold eM
 split
 ·simp
 ·rename_i t _
  show bE t.c <= 16
  cases t.c with
  | kw k => cases k <;> decide
  | _ => decide
theorem aH {a b : Nat} (h : a = b) : ((a : Int) == (b : Int)) = true := by subst h; simp
theorem ah {a b : Nat} (h : a ≠ b) : ((a : Int) == (b : Int)) = false := by rw [beq_eq_false_iff_ne]; omega
theorem ML (s : ByteArray) (ae : Bool) (pb : Nat) (pE : PS -> Int × PS) (m : Nat) (hs : s.size <= 9000) (hE : SP s ae pb pE m) (hG : jK pE m) : Xj s ae pb 190 #[] (fun n st => nF ae s.size pE n st) m := by
 intro nb w sv nv ov st n h hb hm gB
 have uC := Dj s ae pb pE m hs hE hG nb w sv nv ov st n h hb hm gB
 have hloop := A5 s ae pb pE m hs hE hG nb w sv nv ov st n h hb hm gB
 have o5 := xF s ae pb m hs nb w sv nv ov st n h hb hm gB
 have hr1 : ∀ (w : World) (sv nv ov : Value) (st : PS) (n : NR), ee s ae pb w sv nv ov st -> Bk pb nb w sv nv ov (bR n) -> st.l.length <= m -> Nj st -> Calls Tryz.prog 201 #[.pointer (some ⟨pb, 0, none⟩), .pointer (some ⟨nb, 0, none⟩), .int .i64 1] w fun v w' => v = .returned (.tuple #[]) /\
   ∃ fj bw fw, bu pb nb w w' sv nv ov fj bw fw /\ ee s ae pb w' fj bw fw (u7 pE n st).2 /\ Bk pb nb w' fj bw fw (bR (u7 pE n st).1) := fun w sv nv ov st n a b c d => ot s ae pb pE m 1 (by omega) hE hG nb w sv nv ov st n a b c d
 have ez : ∀ (w : World) (sv nv ov : Value) (st : PS) (n : NR), ee s ae pb w sv nv ov st -> Bk pb nb w sv nv ov (bR n) -> st.l.length <= m -> Nj st -> Calls Tryz.prog 201 #[.pointer (some ⟨pb, 0, none⟩), .pointer (some ⟨nb, 0, none⟩), .int .i64 2] w fun v w' => v = .returned (.tuple #[]) /\
   ∃ fj bw fw, bu pb nb w w' sv nv ov fj bw fw /\ ee s ae pb w' fj bw fw (tH pE n st).2 /\ Bk pb nb w' fj bw fw (bR (tH pE n st).1) := fun w sv nv ov st n a b c d => ot s ae pb pE m 2 (by omega) hE hG nb w sv nv ov st n a b c d
 have rm : ∀ (w : World) (sv nv ov : Value) (st : PS) (n : NR), ee s ae pb w sv nv ov st -> Bk pb nb w sv nv ov (bR n) -> st.l.length <= m -> Nj st -> Calls Tryz.prog 201 #[.pointer (some ⟨pb, 0, none⟩), .pointer (some ⟨nb, 0, none⟩), .int .i64 3] w fun v w' => v = .returned (.tuple #[]) /\
   ∃ fj bw fw, bu pb nb w w' sv nv ov fj bw fw /\ ee s ae pb w' fj bw fw (Bh pE n st).2 /\ Bk pb nb w' fj bw fw (bR (Bh pE n st).1) := fun w sv nv ov st n a b c d => ot s ae pb pE m 3 (by omega) hE hG nb w sv nv ov st n a b c d
 have hgr : Gs st (jR s.size n st).2 0 0 := gJ s.size 6 st
 have hgl : (jR s.size n st).2.l.length <= m := Nat.le_trans hgr.l hm
 have hgb := gB.on hgr
 simp only [Array.append_empty] at uC hloop o5
 unfold ptr at uC hloop o5
 obtain ⟨fr, y1, y2, y3⟩ := h.y
 have c0 : w.cell? ⟨nb, 0, none⟩ = some (.int .i64 n.form) := by rw [aa hb.b]; rfl
 have p1 : w.cell? ⟨pb, 1, none⟩ = some (.bool ae) := by rw [aa y3]; rfl
 simp only [Array.append_empty]
 show Calls _ _ #[Value.pointer (some ⟨pb, 0, none⟩), Value.pointer (some ⟨nb, 0, none⟩)] w _
 clear y1 y2 y3 hE hG hgr
 unfold nF
 by_cases k3 : n.form = 3
 ·skip
  have q3 : ((n.form : Int) == 3) = true := aH (b := 3) k3
  have HC : Hid _ := uC
  simp only [if_pos k3]
  clear k3 uC hloop o5 hr1 ez rm hb gB h hgl hgb
  go_enter Tryz.func190, Tryz.ntmps190
  go_wp2_with fail
  refine Calls.mono HC.out ?_
  rintro _ w1 ⟨rfl, xZ, sr, uq, r1, r2, r3⟩
  have H1 : Hid _ := r1
  have H2 : Hid _ := r2
  have H3 : Hid _ := r3
  clear r1 r2 r3
  go_wp2
  refine bodyPost_end (v := .tuple #[]) (by simp [results, Tryz.results190, go_sem]) rfl ⟨rfl, _, _, _, H1.out, H2.out, H3.out⟩
 by_cases k11 : n.form = 11
 ·skip
  have q3 : ((n.form : Int) == 3) = false := ah (b := 3) k3
  have xT : ((n.form : Int) == 11) = true := aH (b := 11) k11
  have HC : Hid _ := hloop
  simp only [if_neg k3, if_pos k11]
  clear k3 k11 uC hloop o5 hr1 ez rm hb gB h hgl hgb
  go_enter Tryz.func190, Tryz.ntmps190
  go_wp2_with fail
  refine Calls.mono HC.out ?_
  rintro _ w1 ⟨rfl, xZ, sr, uq, r1, r2, r3⟩
  have H1 : Hid _ := r1
  have H2 : Hid _ := r2
  have H3 : Hid _ := r3
  clear r1 r2 r3
  go_wp2
  refine bodyPost_end (v := .tuple #[]) (by simp [results, Tryz.results190, go_sem]) rfl ⟨rfl, _, _, _, H1.out, H2.out, H3.out⟩
 by_cases k4 : n.form = 4
 ·skip
  have q3 : ((n.form : Int) == 3) = false := ah (b := 3) k3
  have xT : ((n.form : Int) == 11) = false := ah (b := 11) k11
  have q4 : ((n.form : Int) == 4) = true := aH (b := 4) k4
  cases ae with
  | true =>
   have HC : Hid _ := o5
   have HR : Hid _ := ez
   simp only [if_neg k3, if_neg k11, if_pos k4, if_true]
   have Xk : Hid _ := hgl
   have HGB : Hid _ := hgb
   clear k3 k11 k4 uC hloop o5 hr1 ez rm hb gB h hgl hgb
   go_enter Tryz.func190, Tryz.ntmps190
   go_wp2_with fail
   refine Calls.mono HC.out ?_
   rintro _ w1 ⟨rfl, xZ, sr, uq, r1, r2, r3⟩
   have hx := HR.out w1 xZ sr uq _ _ r2 r3 Xk.out HGB.out
   have H1 : Hid _ := r1
   clear r1 r2 r3 HC HR
   go_wp2_with fail
   refine Calls.mono hx ?_
   rintro _ w2 ⟨rfl, FW, cq, Ed, t1, t2, t3⟩
   have G1 : Hid _ := H1.out.trans t1
   have G2 : Hid _ := t2
   have G3 : Hid _ := t3
   clear t1 t2 t3 hx
   go_wp2
   refine bodyPost_end (v := .tuple #[]) (by simp [results, Tryz.results190, go_sem]) rfl ⟨rfl, _, _, _, G1.out, G2.out, G3.out⟩
  | false =>
   have HC : Hid _ := (ez w sv nv ov st n h hb hm gB)
   simp only [if_neg k3, if_neg k11, if_pos k4, Bool.false_eq_true, if_false]
   clear k3 k11 k4 uC hloop o5 hr1 ez rm hb gB h hgl hgb
   go_enter Tryz.func190, Tryz.ntmps190
   go_wp2_with fail
   refine Calls.mono HC.out ?_
   rintro _ w1 ⟨rfl, xZ, sr, uq, r1, r2, r3⟩
   have H1 : Hid _ := r1
   have H2 : Hid _ := r2
   have H3 : Hid _ := r3
   clear r1 r2 r3
   go_wp2
   refine bodyPost_end (v := .tuple #[]) (by simp [results, Tryz.results190, go_sem]) rfl ⟨rfl, _, _, _, H1.out, H2.out, H3.out⟩
 by_cases k12 : n.form = 12
 ·skip
  have q3 : ((n.form : Int) == 3) = false := ah (b := 3) k3
  have xT : ((n.form : Int) == 11) = false := ah (b := 11) k11
  have q4 : ((n.form : Int) == 4) = false := ah (b := 4) k4
  have yA : ((n.form : Int) == 12) = true := aH (b := 12) k12
  have HC : Hid _ := o5
  have HR : Hid _ := hr1
  simp only [if_neg k3, if_neg k11, if_neg k4, if_pos k12]
  have Xk : Hid _ := hgl
  have HGB : Hid _ := hgb
  clear k3 k11 k4 k12 uC hloop o5 hr1 ez rm hb gB h hgl hgb
  go_enter Tryz.func190, Tryz.ntmps190
  go_wp2_with fail
  refine Calls.mono HC.out ?_
  rintro _ w1 ⟨rfl, xZ, sr, uq, r1, r2, r3⟩
  have hx := HR.out w1 xZ sr uq _ _ r2 r3 Xk.out HGB.out
  have H1 : Hid _ := r1
  clear r1 r2 r3 HC HR
  go_wp2_with fail
  refine Calls.mono hx ?_
  rintro _ w2 ⟨rfl, FW, cq, Ed, t1, t2, t3⟩
  have G1 : Hid _ := H1.out.trans t1
  have G2 : Hid _ := t2
  have G3 : Hid _ := t3
  clear t1 t2 t3 hx
  go_wp2
  refine bodyPost_end (v := .tuple #[]) (by simp [results, Tryz.results190, go_sem]) rfl ⟨rfl, _, _, _, G1.out, G2.out, G3.out⟩
 by_cases k5 : n.form = 5
 ·skip
  have q3 : ((n.form : Int) == 3) = false := ah (b := 3) k3
  have xT : ((n.form : Int) == 11) = false := ah (b := 11) k11
  have q4 : ((n.form : Int) == 4) = false := ah (b := 4) k4
  have yA : ((n.form : Int) == 12) = false := ah (b := 12) k12
  have q5 : ((n.form : Int) == 5) = true := aH (b := 5) k5
  have Nr : n.form = 5 \/ n.form = 6 := Or.inl k5
  have HC : Hid _ := (hr1 w sv nv ov st n h hb hm gB)
  simp only [if_neg k3, if_neg k11, if_neg k4, if_neg k12, if_pos Nr]
  clear k3 k11 k4 k12 k5 Nr uC hloop o5 hr1 ez rm hb gB h hgl hgb
  go_enter Tryz.func190, Tryz.ntmps190
  go_wp2_with fail
  refine Calls.mono HC.out ?_
  rintro _ w1 ⟨rfl, xZ, sr, uq, r1, r2, r3⟩
  have H1 : Hid _ := r1
  have H2 : Hid _ := r2
  have H3 : Hid _ := r3
  clear r1 r2 r3
  go_wp2
  refine bodyPost_end (v := .tuple #[]) (by simp [results, Tryz.results190, go_sem]) rfl ⟨rfl, _, _, _, H1.out, H2.out, H3.out⟩
 by_cases k6 : n.form = 6
 ·skip
  have q3 : ((n.form : Int) == 3) = false := ah (b := 3) k3
  have xT : ((n.form : Int) == 11) = false := ah (b := 11) k11
  have q4 : ((n.form : Int) == 4) = false := ah (b := 4) k4
  have yA : ((n.form : Int) == 12) = false := ah (b := 12) k12
  have q5 : ((n.form : Int) == 5) = false := ah (b := 5) k5
  have q6 : ((n.form : Int) == 6) = true := aH (b := 6) k6
  have Nr : n.form = 5 \/ n.form = 6 := Or.inr k6
  have HC : Hid _ := (hr1 w sv nv ov st n h hb hm gB)
  simp only [if_neg k3, if_neg k11, if_neg k4, if_neg k12, if_pos Nr]
  clear k3 k11 k4 k12 k5 k6 Nr uC hloop o5 hr1 ez rm hb gB h hgl hgb
  go_enter Tryz.func190, Tryz.ntmps190
  go_wp2_with fail
  refine Calls.mono HC.out ?_
  rintro _ w1 ⟨rfl, xZ, sr, uq, r1, r2, r3⟩
  have H1 : Hid _ := r1
  have H2 : Hid _ := r2
  have H3 : Hid _ := r3
  clear r1 r2 r3
  go_wp2
  refine bodyPost_end (v := .tuple #[]) (by simp [results, Tryz.results190, go_sem]) rfl ⟨rfl, _, _, _, H1.out, H2.out, H3.out⟩
 have Nr : ¬ (n.form = 5 \/ n.form = 6) := fun e => e.elim k5 k6
 by_cases k7 : n.form = 7
 ·skip
  have q3 : ((n.form : Int) == 3) = false := ah (b := 3) k3
  have xT : ((n.form : Int) == 11) = false := ah (b := 11) k11
  have q4 : ((n.form : Int) == 4) = false := ah (b := 4) k4
  have yA : ((n.form : Int) == 12) = false := ah (b := 12) k12
  have q5 : ((n.form : Int) == 5) = false := ah (b := 5) k5
  have q6 : ((n.form : Int) == 6) = false := ah (b := 6) k6
  have q7 : ((n.form : Int) == 7) = true := aH (b := 7) k7
  have HC : Hid _ := (rm w sv nv ov st n h hb hm gB)
  simp only [if_neg k3, if_neg k11, if_neg k4, if_neg k12, if_neg Nr, if_pos k7]
  clear k3 k11 k4 k12 k5 k6 Nr k7 uC hloop o5 hr1 ez rm hb gB h hgl hgb
  go_enter Tryz.func190, Tryz.ntmps190
  go_wp2_with fail
  refine Calls.mono HC.out ?_
  rintro _ w1 ⟨rfl, xZ, sr, uq, r1, r2, r3⟩
  have H1 : Hid _ := r1
  have H2 : Hid _ := r2
  have H3 : Hid _ := r3
  clear r1 r2 r3
  go_wp2
  refine bodyPost_end (v := .tuple #[]) (by simp [results, Tryz.results190, go_sem]) rfl ⟨rfl, _, _, _, H1.out, H2.out, H3.out⟩
 ·skip
  have q3 : ((n.form : Int) == 3) = false := ah (b := 3) k3
  have xT : ((n.form : Int) == 11) = false := ah (b := 11) k11
  have q4 : ((n.form : Int) == 4) = false := ah (b := 4) k4
  have yA : ((n.form : Int) == 12) = false := ah (b := 12) k12
  have q5 : ((n.form : Int) == 5) = false := ah (b := 5) k5
  have q6 : ((n.form : Int) == 6) = false := ah (b := 6) k6
  have q7 : ((n.form : Int) == 7) = false := ah (b := 7) k7
  have HC : Hid _ := (ez w sv nv ov st n h hb hm gB)
  simp only [if_neg k3, if_neg k11, if_neg k4, if_neg k12, if_neg Nr, if_neg k7]
  clear k3 k11 k4 k12 k5 k6 Nr k7 uC hloop o5 hr1 ez rm hb gB h hgl hgb
  go_enter Tryz.func190, Tryz.ntmps190
  go_wp2_with fail
  refine Calls.mono HC.out ?_
  rintro _ w1 ⟨rfl, xZ, sr, uq, r1, r2, r3⟩
  have H1 : Hid _ := r1
  have H2 : Hid _ := r2
  have H3 : Hid _ := r3
  clear r1 r2 r3
  go_wp2
  refine bodyPost_end (v := .tuple #[]) (by simp [results, Tryz.results190, go_sem]) rfl ⟨rfl, _, _, _, H1.out, H2.out, H3.out⟩
theorem aC {w : World} {nb : Nat} {n : NR} (h : w.heap[nb]? = some (bR n)) :
  w.cell? ⟨nb, 0, none⟩ = some (.int .i64 n.form) /\ w.cell? ⟨nb, 1, none⟩ = some (.int .i64 n.at_) /\ w.cell? ⟨nb, 2, none⟩ = some (.int .i64 n.aO) /\ w.cell? ⟨nb, 3, none⟩ = some (.int .i64 n.num) /\ w.cell? ⟨nb, 4, none⟩ = some (.string (bs n.word)) /\
  w.cell? ⟨nb, 5, none⟩ = some (.int .i64 n.region) /\ w.cell? ⟨nb, 6, none⟩ = some (.int .i64 n.source) /\ w.cell? ⟨nb, 7, none⟩ = some (.int .i64 n.p0) /\ w.cell? ⟨nb, 8, none⟩ = some (.int .i64 n.p1) /\ w.cell? ⟨nb, 9, none⟩ = some (.int .i64 n.p2) :=
 ⟨by rw [aa h]; rfl, by rw [aa h]; rfl, by rw [aa h]; rfl, by rw [aa h]; rfl, by rw [aa h]; rfl, by rw [aa h]; rfl, by rw [aa h]; rfl, by rw [aa h]; rfl, by rw [aa h]; rfl, by rw [aa h]; rfl⟩
theorem bu.drop {pb nb : Nat} {w w' : World} {X : Obj} {sv nv ov fj bw fw : Value} (h : bu pb nb (w.alloc X) w' sv nv ov fj bw fw) (hn : nb = w.heap.size) : bu pb pb w w' sv nv ov fj bw fw := by
 have hs : (w.alloc X).heap.size = w.heap.size + 1 := by simp
 have f := h.size
 rw [hs] at f
 have hb : Below w.heap.size w (w.alloc X) := (Below.refl _ w).alloc (Nat.le_refl _) X
 refine ⟨h.os.trans hb.os, h.tape.trans hb.tape, h.output.trans hb.output, by omega, fun k hk hp _ a b c => ?_, fun g hg => ?_, fun g hg => ?_, fun g hg => ?_⟩
 ·rw [h.blk k (by omega) hp (by omega) a b c]; exact hb.block k hk
 ·rcases h.s g hg with e | e
  ·exact Or.inl e
  ·exact Or.inr (by omega)
 ·rcases h.n g hg with e | e
  ·exact Or.inl e
  ·exact Or.inr (by omega)
 ·rcases h.o g hg with e | e
  ·exact Or.inl e
  ·exact Or.inr (by omega)
def BOk (s : ByteArray) (ae : Bool) (pb : Nat) (pB : NR -> PS -> Int × PS) (m : Nat) : Prop :=
 ∀ (w : World) (sv nv ov : Value) (st : PS) (n : NR), ee s ae pb w sv nv ov st -> st.l.length <= m -> Nj st -> Calls Tryz.prog 181 #[ptr pb, aI n] w fun v w' => v = .returned (.int .i64 (pB n st).1) /\
  ∃ fj bw fw, bu pb pb w w' sv nv ov fj bw fw /\ ee s ae pb w' fj bw fw (pB n st).2
theorem Dk (s : ByteArray) (ae : Bool) (pb : Nat) (pE : PS -> Int × PS) (m : Nat) (hs : s.size <= 9000) (hE : SP s ae pb pE m) (hG : jK pE m) : BOk s ae pb (gj ae s.size pE) m := by
 intro w sv nv ov st n h hm gB
 have htk := vW s ae pb (w.alloc (bR n)) sv nv ov st hs (h.alloc _)
 have hfi := fun nb w sv nv ov n h hb => ML s ae pb pE m hs hE hG nb w sv nv ov st.tail n h hb (Nat.le_trans (nG st) hm) (gB.on (mA st))
 have hfa := fun w a h => w8 s ae pb w sv nv ov st.tail a h
 have hkl := PM s.size st.l
 have Uf := Bk.new h (bR n)
 unfold gj
 simp only
 obtain ⟨T, hT⟩ : ∃ T, T = eM s.size st.l := ⟨_, rfl⟩
 rw [<- hT] at htk hkl ⊢
 have hfo := fun w => Fl T.kind w hkl
 have hform : ∃ f : Nat, f = cG T.kind := ⟨_, rfl⟩
 obtain ⟨f, hf⟩ := hform
 rw [<- hf] at hfo ⊢
 have hgf := FR hG ae s.size { n with form := f } st.tail (Nat.le_trans (nG st) hm)
 have hex := fun w sv nv ov h => kT s ae pb w sv nv ov (nF ae s.size pE { n with form := f } st.tail).2 3 hs h
 have hge := gJ s.size 3 (nF ae s.size pE { n with form := f } st.tail).2
 have lg : ((nF ae s.size pE { n with form := f } st.tail).2.expect s.size 3).nodes.length <= 9000 := by
  have := hgf.nd; have := hge.nd; have := (mA st).nd; have := gB.2.1; omega
 have had := fun w sv nv ov n' h => Gi s ae pb w sv nv ov ((nF ae s.size pE { n with form := f } st.tail).2.expect s.size 3) n' lg h
 unfold gV ptr at htk hex
 unfold ptr at hfa had
 simp only [Array.append_empty] at hfi
 unfold ptr at hfi
 clear hgf hge lg hE hG gB hm hkl hT hf
 have HH : Hid _ := h
 have DD : Hid _ := Uf
 clear h Uf
 unfold aI at had
 show Calls _ _ #[Value.pointer (some ⟨pb, 0, none⟩), Value.agg #[.int .i64 n.form, .int .i64 n.at_, .int .i64 n.aO, .int .i64 n.num, .string (bs n.word), .int .i64 n.region, .int .i64 n.source, .int .i64 n.p0, .int .i64 n.p1, .int .i64 n.p2]] w _
 by_cases hc : f = 0 \/ (f = 12 /\ ae = false)
 ·simp only [if_pos hc]
  go_enter Tryz.func181, Tryz.ntmps181
  go_wp2_with fail
  refine Calls.mono htk ?_
  rintro _ w1 ⟨rfl, hfr, hin⟩
  have hb1 := DD.out.keep hfr
  obtain ⟨c0, _⟩ := aC hb1.b
  have f0 := ag hb1.b 0
  have hnb := af hb1.b
  obtain ⟨s1, s2, s3⟩ := hb1.set hin 0 (.int .i64 f)
  have Jl := hfa _ T.at_ (s2.alloc (lF T))
  have HF : Hid _ := ((hfr.nb (nb := w.heap.size)).trans s1).alloc (lF T)
  obtain ⟨fr, y1, y2, y3⟩ := s2.y
  have p1 : w1.cell? ⟨pb, 1, none⟩ = some (.bool ae) := by
   obtain ⟨fr, y1, y2, y3⟩ := hin.y
   rw [aa y3]; rfl
  have hpn : w.heap.size ≠ pb := hb1.ne
  have hpl : pb < w1.heap.size := hin.slt.2.2.2
  have aar : pb ≠ w.heap.size := fun e => hb1.ne e.symm
  unfold lF Tp at Jl
  clear s1 s2 s3 hfr hin hb1 htk hfa DD hex had hfi y1 y2 y3
  rcases hc with hc | ⟨hc, hp⟩
  ·have q0 : ((f : Int) == 0) = true := aH (b := 0) hc
   have HFz : Hid _ := hc
   clear hc
   go_wp2_with (first
    | (go_at_call 189; refine (hfo _).mono ?_; rintro e w' ⟨rfl, rfl⟩)
    | (go_at_call 154; refine Calls.mono Jl ?_; rintro e w' ⟨rfl, cO, bf⟩))
   go_ret
   exact ⟨rfl, sv, nv, ov, (HF.out.trans (cO.nb (nb := w.heap.size))).drop rfl, bf⟩
  ·have q0 : ((f : Int) == 0) = false := ah (b := 0) (by omega)
   have yA : ((f : Int) == 12) = true := aH (b := 12) hc
   subst hp
   have HFz : Hid _ := hc
   clear hc
   go_wp2_with (first
    | (go_at_call 189; refine (hfo _).mono ?_; rintro e w' ⟨rfl, rfl⟩)
    | (go_at_call 154; refine Calls.mono Jl ?_; rintro e w' ⟨rfl, cO, bf⟩))
   go_ret
   exact ⟨rfl, sv, nv, ov, (HF.out.trans (cO.nb (nb := w.heap.size))).drop rfl, bf⟩
 ·simp only [if_neg hc]
  generalize hX : nF ae s.size pE { n with form := f } st.tail = X at *
  obtain ⟨T2, qX⟩ : ∃ T2, T2 = eM s.size X.2.l := ⟨_, rfl⟩
  rw [<- qX] at hex ⊢
  have Tq := fun nb w sv nv ov h hb => hfi nb w sv nv ov { n with form := f } h hb
  rw [hX] at Tq
  generalize X.2.expect s.size 3 = S3 at *
  have q0 : ((f : Int) == 0) = false := ah (b := 0) (fun e => hc (Or.inl e))
  have hq : (((f : Int) == 12) = true /\ ae = true) \/ ((f : Int) == 12) = false := by
   by_cases e : f = 12
   ·left
    refine ⟨aH (b := 12) e, ?_⟩
    cases ae with
    | true => rfl
    | false => exact absurd (Or.inr ⟨e, rfl⟩) hc
   ·exact Or.inr (ah (b := 12) e)
  have Hu : Hid _ := Tq
  have Bj : Hid _ := hex
  have HAD : Hid _ := had
  have HQ : Hid _ := hq
  clear hfi Tq hex had hfa hc hX qX hq
  go_enter Tryz.func181, Tryz.ntmps181
  go_wp2_with fail
  refine Calls.mono htk ?_
  rintro _ w1 ⟨rfl, hfr, hin⟩
  have hb1 := DD.out.keep hfr
  obtain ⟨c0, _⟩ := aC hb1.b
  have f0 := ag hb1.b 0
  have hnb := af hb1.b
  obtain ⟨s1, s2, s3⟩ := hb1.set hin 0 (.int .i64 f)
  have Tr := Hu.out w.heap.size _ _ _ _ (s2.alloc (lF T)) (s3.alloc (lF T))
  have HF : Hid _ := ((hfr.nb (nb := w.heap.size)).trans s1).alloc (lF T)
  have p1 : w1.cell? ⟨pb, 1, none⟩ = some (.bool ae) := by
   obtain ⟨fr, y1, y2, y3⟩ := hin.y
   rw [aa y3]; rfl
  have hpn : w.heap.size ≠ pb := hb1.ne
  have hpl : pb < w1.heap.size := hin.slt.2.2.2
  have aar : pb ≠ w.heap.size := fun e => hb1.ne e.symm
  unfold lF Tp at Tr
  have PN : Hid _ := Tr
  clear s1 s2 s3 hfr hin hb1 htk DD Hu Tr
  have hq := HQ.out
  clear HQ
  rcases hq with ⟨yA, hp⟩ | yA
  ·rw [hp] at p1
   go_wp2_with (go_at_call 189; refine (hfo _).mono ?_; rintro e w' ⟨rfl, rfl⟩)
   refine Calls.mono PN.out ?_
   rintro _ w2 ⟨rfl, FW, cq, Ed, r1, r2, r3⟩
   have MN := Bj.out _ _ _ _ r2
   have G1 : Hid _ := HF.out.trans r1
   have dN : Hid _ := r3
   clear r1 r2 r3 PN Bj p1 c0 f0
   go_wp2_with fail
   refine Calls.mono MN ?_
   rintro _ w3 ⟨rfl, bM, dV⟩
   have hb3 := dN.out.keep bM
   obtain ⟨c0, c1, c2, c3, c4, c5, c6, c7, c8, c9⟩ := aC hb3.b
   have f2 := ag hb3.b 2
   have Hn := af hb3.b
   obtain ⟨t1, t2, t3⟩ := hb3.set dV 2 (.int .i64 T2.aO)
   have tD := HAD.out _ _ _ _ { X.1 with aO := T2.aO } (t2.alloc (lF T2))
   have G2 : Hid _ := ((G1.out.trans (bM.nb (nb := w.heap.size))).trans t1).alloc (lF T2)
   unfold lF Tp at tD
   have xG : Hid _ := tD
   clear t1 t2 t3 bM dV hb3 MN HAD dN G1 tD
   go_wp2_with fail
   refine Calls.mono xG.out ?_
   rintro _ w4 ⟨rfl, gy, gN, bQ⟩
   have G3 : Hid _ := (G2.out.trans (gN.nb (nb := w.heap.size))).drop rfl
   have G4 : Hid _ := bQ
   clear gN bQ xG G2
   go_wp2
   go_ret
   exact ⟨rfl, _, _, _, G3.out, G4.out⟩
  ·go_wp2_with (go_at_call 189; refine (hfo _).mono ?_; rintro e w' ⟨rfl, rfl⟩)
   refine Calls.mono PN.out ?_
   rintro _ w2 ⟨rfl, FW, cq, Ed, r1, r2, r3⟩
   have MN := Bj.out _ _ _ _ r2
   have G1 : Hid _ := HF.out.trans r1
   have dN : Hid _ := r3
   clear r1 r2 r3 PN Bj p1 c0 f0
   go_wp2_with fail
   refine Calls.mono MN ?_
   rintro _ w3 ⟨rfl, bM, dV⟩
   have hb3 := dN.out.keep bM
   obtain ⟨c0, c1, c2, c3, c4, c5, c6, c7, c8, c9⟩ := aC hb3.b
   have f2 := ag hb3.b 2
   have Hn := af hb3.b
   obtain ⟨t1, t2, t3⟩ := hb3.set dV 2 (.int .i64 T2.aO)
   have tD := HAD.out _ _ _ _ { X.1 with aO := T2.aO } (t2.alloc (lF T2))
   have G2 : Hid _ := ((G1.out.trans (bM.nb (nb := w.heap.size))).trans t1).alloc (lF T2)
   unfold lF Tp at tD
   have xG : Hid _ := tD
   clear t1 t2 t3 bM dV hb3 MN HAD dN G1 tD
   go_wp2_with fail
   refine Calls.mono xG.out ?_
   rintro _ w4 ⟨rfl, gy, gN, bQ⟩
   have G3 : Hid _ := (G2.out.trans (gN.nb (nb := w.heap.size))).drop rfl
   have G4 : Hid _ := bQ
   clear gN bQ xG G2
   go_wp2
   go_ret
   exact ⟨rfl, _, _, _, G3.out, G4.out⟩
theorem Dl (w : World) : Calls Tryz.prog 125 #[] w fun v w' => v = .returned (.agg #[.int .i64 (-1), .int .i64 (-1), .int .i64 (-1)]) /\ Below w.heap.size w w' := by
 go_enter Tryz.func125, Tryz.ntmps125
 go_wp2
 refine bodyPost_ret (v := .agg #[.int .i64 (-1), .int .i64 (-1), .int .i64 (-1)]) (by simp [results, Tryz.results125, go_sem]) rfl ⟨rfl, (Below.refl _ _).alloc (Nat.le_refl _) _⟩
theorem GN {w : World} {g : Nat} {t : TypeId} {a0 a1 a2 a3 a4 a5 a6 a7 a8 a9 : Value} (h : w.heap[g]? = some (.cells #[a0, a1, a2, a3, a4, a5, a6, a7, a8, a9] t (0, 0))) :
  w.cell? ⟨g, 0, none⟩ = some a0 /\ w.cell? ⟨g, 1, none⟩ = some a1 /\ w.cell? ⟨g, 2, none⟩ = some a2 /\ w.cell? ⟨g, 3, none⟩ = some a3 /\ w.cell? ⟨g, 4, none⟩ = some a4 /\ w.cell? ⟨g, 5, none⟩ = some a5 /\ w.cell? ⟨g, 6, none⟩ = some a6 /\ w.cell? ⟨g, 7, none⟩ = some a7 /\ w.cell? ⟨g, 8, none⟩ = some a8 /\ w.cell? ⟨g, 9, none⟩ = some a9 :=
 ⟨by rw [aa h]; rfl, by rw [aa h]; rfl, by rw [aa h]; rfl, by rw [aa h]; rfl, by rw [aa h]; rfl, by rw [aa h]; rfl, by rw [aa h]; rfl, by rw [aa h]; rfl, by rw [aa h]; rfl, by rw [aa h]; rfl⟩
theorem MO {w : World} {g : Nat} {t : TypeId} {cs : Array Value} (h : w.heap[g]? = some (.cells cs t (0, 0))) :
  w.frozen? ⟨g, 0, none⟩ = false /\ w.frozen? ⟨g, 1, none⟩ = false /\ w.frozen? ⟨g, 2, none⟩ = false /\ w.frozen? ⟨g, 3, none⟩ = false /\ w.frozen? ⟨g, 4, none⟩ = false /\ w.frozen? ⟨g, 5, none⟩ = false /\ w.frozen? ⟨g, 6, none⟩ = false /\ w.frozen? ⟨g, 7, none⟩ = false /\ w.frozen? ⟨g, 8, none⟩ = false /\ w.frozen? ⟨g, 9, none⟩ = false :=
 ⟨ag h 0, ag h 1, ag h 2, ag h 3, ag h 4, ag h 5, ag h 6, ag h 7, ag h 8, ag h 9⟩
theorem Tt {w w2 : World} {A : Obj} (hb : Below (w.alloc A).drew.heap.size (w.alloc A).drew w2) : w2.heap[w.heap.size]? = some A := by
 rw [hb.block w.heap.size (by show w.heap.size < (w.alloc A).heap.size; simp)]
 exact aj w A
theorem Tu {w w2 : World} {A B : Obj} (hb : Below ((w.alloc A).alloc B).drew.heap.size ((w.alloc A).alloc B).drew w2) : w2.heap[w.heap.size]? = some A := by
 rw [hb.block w.heap.size (by show w.heap.size < ((w.alloc A).alloc B).heap.size; simp; omega)]
 exact aL _ (aj w A)
theorem bu.outer {pb nb : Nat} {w w' : World} {sv nv ov fj bw fw : Value} (h : bu pb nb w w' sv nv ov fj bw fw) (hn : w.heap.size <= nb) : bu pb pb w w' sv nv ov fj bw fw :=
 ⟨h.os, h.tape, h.output, h.size, fun k hk hp _ a b c => h.blk k hk hp (by omega) a b c, h.s, h.n, h.o⟩
def Fm (w1 : World) (T : TN) (t4 : Value) (wx : World) : Prop := ∃ g, w1.heap.size < g /\ t4 = .pointer (some ⟨g, 0, none⟩) /\ wx.heap[g]? = some (bR (iP T)) /\ Below (w1.alloc (lF T)).heap.size (w1.alloc (lF T)) wx
theorem Dm {w1 w2 : World} {T : TN} (hb : Below (w1.alloc (lF T)).drew.heap.size (w1.alloc (lF T)).drew w2) : Fm w1 T (.pointer (some ⟨w2.heap.size, 0, none⟩)) (w2.alloc (.cells #[.int .i64 0, .int .i64 T.at_, .int .i64 T.aO, .int .i64 0, .string ⟨#[]⟩, .int .i64 0, .int .i64 (-1), .int .i64 (-1), .int .i64 (-1), .int .i64 (-1)] 160)) := by
 have hs : w1.heap.size + 1 <= w2.heap.size := by have := hb.size; simpa using this
 refine ⟨w2.heap.size, by omega, rfl, aj _ _, ?_⟩
 have h1 : Below (w1.alloc (lF T)).heap.size (w1.alloc (lF T)) w2 := (⟨rfl, rfl, rfl, Nat.le_refl _, fun _ _ => rfl⟩ : Below (w1.alloc (lF T)).heap.size (w1.alloc (lF T)) (w1.alloc (lF T)).drew).trans hb
 exact h1.alloc (by simp; omega) _
theorem Dn {w1 w2 : World} {T : TN} {a0 a1 a2 a3 a4 a5 a6 a7 a8 a9 : Value} (hb : Below ((w1.alloc (lF T)).alloc (.cells #[a0, a1, a2, a3, a4, a5, a6, a7, a8, a9] 160)).drew.heap.size ((w1.alloc (lF T)).alloc (.cells #[a0, a1, a2, a3, a4, a5, a6, a7, a8, a9] 160)).drew w2) :
  Fm w1 T (.pointer (some ⟨w1.heap.size + 1, 0, none⟩)) ((((((((((w2.setCell ⟨w1.heap.size + 1, 0, none⟩ (.int .i64 0)).setCell ⟨w1.heap.size + 1, 1, none⟩ (.int .i64 T.at_)).setCell ⟨w1.heap.size + 1, 2, none⟩ (.int .i64 T.aO)).setCell ⟨w1.heap.size + 1, 3, none⟩ (.int .i64 0)).setCell ⟨w1.heap.size + 1, 4, none⟩ (.string ⟨#[]⟩)).setCell ⟨w1.heap.size + 1, 5, none⟩ (.int .i64 0)).setCell ⟨w1.heap.size + 1, 6, none⟩ (.int .i64 (-1))).setCell ⟨w1.heap.size + 1, 7, none⟩ (.int .i64 (-1))).setCell ⟨w1.heap.size + 1, 8, none⟩ (.int .i64 (-1))).setCell ⟨w1.heap.size + 1, 9, none⟩ (.int .i64 (-1))) := by
 have hq := jv hb
 have e1 : (w1.alloc (lF T)).heap.size = w1.heap.size + 1 := by simp
 refine ⟨w1.heap.size + 1, by omega, rfl, ?_, ?_⟩
 ·have h0 : (w2.setCell ⟨w1.heap.size + 1, 0, none⟩ (.int .i64 0)).heap[w1.heap.size + 1]? = some (.cells #[.int .i64 0, a1, a2, a3, a4, a5, a6, a7, a8, a9] 160 (0, 0)) := az hq 0 _
  have h1 : ((w2.setCell ⟨w1.heap.size + 1, 0, none⟩ (.int .i64 0)).setCell ⟨w1.heap.size + 1, 1, none⟩ (.int .i64 T.at_)).heap[w1.heap.size + 1]? = some (.cells #[.int .i64 0, .int .i64 T.at_, a2, a3, a4, a5, a6, a7, a8, a9] 160 (0, 0)) := az h0 1 _
  have h2 : (((w2.setCell ⟨w1.heap.size + 1, 0, none⟩ (.int .i64 0)).setCell ⟨w1.heap.size + 1, 1, none⟩ (.int .i64 T.at_)).setCell ⟨w1.heap.size + 1, 2, none⟩ (.int .i64 T.aO)).heap[w1.heap.size + 1]? = some (.cells #[.int .i64 0, .int .i64 T.at_, .int .i64 T.aO, a3, a4, a5, a6, a7, a8, a9] 160 (0, 0)) := az h1 2 _
  have h3 : ((((w2.setCell ⟨w1.heap.size + 1, 0, none⟩ (.int .i64 0)).setCell ⟨w1.heap.size + 1, 1, none⟩ (.int .i64 T.at_)).setCell ⟨w1.heap.size + 1, 2, none⟩ (.int .i64 T.aO)).setCell ⟨w1.heap.size + 1, 3, none⟩ (.int .i64 0)).heap[w1.heap.size + 1]? = some (.cells #[.int .i64 0, .int .i64 T.at_, .int .i64 T.aO, .int .i64 0, a4, a5, a6, a7, a8, a9] 160 (0, 0)) := az h2 3 _
  have h4 : (((((w2.setCell ⟨w1.heap.size + 1, 0, none⟩ (.int .i64 0)).setCell ⟨w1.heap.size + 1, 1, none⟩ (.int .i64 T.at_)).setCell ⟨w1.heap.size + 1, 2, none⟩ (.int .i64 T.aO)).setCell ⟨w1.heap.size + 1, 3, none⟩ (.int .i64 0)).setCell ⟨w1.heap.size + 1, 4, none⟩ (.string ⟨#[]⟩)).heap[w1.heap.size + 1]? = some (.cells #[.int .i64 0, .int .i64 T.at_, .int .i64 T.aO, .int .i64 0, .string ⟨#[]⟩, a5, a6, a7, a8, a9] 160 (0, 0)) := az h3 4 _
  have h5 : ((((((w2.setCell ⟨w1.heap.size + 1, 0, none⟩ (.int .i64 0)).setCell ⟨w1.heap.size + 1, 1, none⟩ (.int .i64 T.at_)).setCell ⟨w1.heap.size + 1, 2, none⟩ (.int .i64 T.aO)).setCell ⟨w1.heap.size + 1, 3, none⟩ (.int .i64 0)).setCell ⟨w1.heap.size + 1, 4, none⟩ (.string ⟨#[]⟩)).setCell ⟨w1.heap.size + 1, 5, none⟩ (.int .i64 0)).heap[w1.heap.size + 1]? = some (.cells #[.int .i64 0, .int .i64 T.at_, .int .i64 T.aO, .int .i64 0, .string ⟨#[]⟩, .int .i64 0, a6, a7, a8, a9] 160 (0, 0)) := az h4 5 _
  have h6 : (((((((w2.setCell ⟨w1.heap.size + 1, 0, none⟩ (.int .i64 0)).setCell ⟨w1.heap.size + 1, 1, none⟩ (.int .i64 T.at_)).setCell ⟨w1.heap.size + 1, 2, none⟩ (.int .i64 T.aO)).setCell ⟨w1.heap.size + 1, 3, none⟩ (.int .i64 0)).setCell ⟨w1.heap.size + 1, 4, none⟩ (.string ⟨#[]⟩)).setCell ⟨w1.heap.size + 1, 5, none⟩ (.int .i64 0)).setCell ⟨w1.heap.size + 1, 6, none⟩ (.int .i64 (-1))).heap[w1.heap.size + 1]? = some (.cells #[.int .i64 0, .int .i64 T.at_, .int .i64 T.aO, .int .i64 0, .string ⟨#[]⟩, .int .i64 0, .int .i64 (-1), a7, a8, a9] 160 (0, 0)) := az h5 6 _
  have h7 : ((((((((w2.setCell ⟨w1.heap.size + 1, 0, none⟩ (.int .i64 0)).setCell ⟨w1.heap.size + 1, 1, none⟩ (.int .i64 T.at_)).setCell ⟨w1.heap.size + 1, 2, none⟩ (.int .i64 T.aO)).setCell ⟨w1.heap.size + 1, 3, none⟩ (.int .i64 0)).setCell ⟨w1.heap.size + 1, 4, none⟩ (.string ⟨#[]⟩)).setCell ⟨w1.heap.size + 1, 5, none⟩ (.int .i64 0)).setCell ⟨w1.heap.size + 1, 6, none⟩ (.int .i64 (-1))).setCell ⟨w1.heap.size + 1, 7, none⟩ (.int .i64 (-1))).heap[w1.heap.size + 1]? = some (.cells #[.int .i64 0, .int .i64 T.at_, .int .i64 T.aO, .int .i64 0, .string ⟨#[]⟩, .int .i64 0, .int .i64 (-1), .int .i64 (-1), a8, a9] 160 (0, 0)) := az h6 7 _
  have h8 : (((((((((w2.setCell ⟨w1.heap.size + 1, 0, none⟩ (.int .i64 0)).setCell ⟨w1.heap.size + 1, 1, none⟩ (.int .i64 T.at_)).setCell ⟨w1.heap.size + 1, 2, none⟩ (.int .i64 T.aO)).setCell ⟨w1.heap.size + 1, 3, none⟩ (.int .i64 0)).setCell ⟨w1.heap.size + 1, 4, none⟩ (.string ⟨#[]⟩)).setCell ⟨w1.heap.size + 1, 5, none⟩ (.int .i64 0)).setCell ⟨w1.heap.size + 1, 6, none⟩ (.int .i64 (-1))).setCell ⟨w1.heap.size + 1, 7, none⟩ (.int .i64 (-1))).setCell ⟨w1.heap.size + 1, 8, none⟩ (.int .i64 (-1))).heap[w1.heap.size + 1]? = some (.cells #[.int .i64 0, .int .i64 T.at_, .int .i64 T.aO, .int .i64 0, .string ⟨#[]⟩, .int .i64 0, .int .i64 (-1), .int .i64 (-1), .int .i64 (-1), a9] 160 (0, 0)) := az h7 8 _
  have h9 : ((((((((((w2.setCell ⟨w1.heap.size + 1, 0, none⟩ (.int .i64 0)).setCell ⟨w1.heap.size + 1, 1, none⟩ (.int .i64 T.at_)).setCell ⟨w1.heap.size + 1, 2, none⟩ (.int .i64 T.aO)).setCell ⟨w1.heap.size + 1, 3, none⟩ (.int .i64 0)).setCell ⟨w1.heap.size + 1, 4, none⟩ (.string ⟨#[]⟩)).setCell ⟨w1.heap.size + 1, 5, none⟩ (.int .i64 0)).setCell ⟨w1.heap.size + 1, 6, none⟩ (.int .i64 (-1))).setCell ⟨w1.heap.size + 1, 7, none⟩ (.int .i64 (-1))).setCell ⟨w1.heap.size + 1, 8, none⟩ (.int .i64 (-1))).setCell ⟨w1.heap.size + 1, 9, none⟩ (.int .i64 (-1))).heap[w1.heap.size + 1]? = some (.cells #[.int .i64 0, .int .i64 T.at_, .int .i64 T.aO, .int .i64 0, .string ⟨#[]⟩, .int .i64 0, .int .i64 (-1), .int .i64 (-1), .int .i64 (-1), .int .i64 (-1)] 160 (0, 0)) := az h8 9 _
  exact h9
 ·have h1 : Below (w1.alloc (lF T)).heap.size (w1.alloc (lF T)) ((w1.alloc (lF T)).alloc (.cells #[a0, a1, a2, a3, a4, a5, a6, a7, a8, a9] 160)).drew := ((Below.refl _ _).alloc (Nat.le_refl _) (.cells #[a0, a1, a2, a3, a4, a5, a6, a7, a8, a9] 160)).trans ⟨rfl, rfl, rfl, Nat.le_refl _, fun _ _ => rfl⟩
  have h2 := h1.trans (hb.mono (by show (w1.alloc (lF T)).heap.size <= ((w1.alloc (lF T)).alloc (.cells #[a0, a1, a2, a3, a4, a5, a6, a7, a8, a9] 160)).heap.size; simp))
  rw [e1] at h2 ⊢
  exact (((((((((h2.setCell (p := ⟨w1.heap.size + 1, 0, none⟩) (by simp) _).setCell (p := ⟨w1.heap.size + 1, 1, none⟩) (by simp) _).setCell (p := ⟨w1.heap.size + 1, 2, none⟩) (by simp) _).setCell (p := ⟨w1.heap.size + 1, 3, none⟩) (by simp) _).setCell (p := ⟨w1.heap.size + 1, 4, none⟩) (by simp) _).setCell (p := ⟨w1.heap.size + 1, 5, none⟩) (by simp) _).setCell (p := ⟨w1.heap.size + 1, 6, none⟩) (by simp) _).setCell (p := ⟨w1.heap.size + 1, 7, none⟩) (by simp) _).setCell (p := ⟨w1.heap.size + 1, 8, none⟩) (by simp) _).setCell (p := ⟨w1.heap.size + 1, 9, none⟩) (by simp) _
def BdA (st : PS) : Prop := st.scope.length + st.l.length <= 9000 /\ st.nodes.length + st.l.length <= 9000 /\ st.opened.length + 4 * st.l.length <= 50001
end Go.Proofs.YtpicaknklgccoaaGreatDoor
