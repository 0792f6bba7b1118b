import Derived.Test.YtpicaknklgccoaaGreatDoorS36
set_option maxHeartbeats 4000000
set_option maxRecDepth 100000
namespace Go.Proofs.YtpicaknklgccoaaGreatDoor
open Go.RowKit
theorem zG (T : List Ty) (rg a b : Nat) : ∀ (l : List NR) (k : Nat), eG T rg a b l k = -1 \/ ∃ (j : Nat) (m : NR), l[j]? = some m /\ eG T rg a b l k = ((k + j : Nat) : Int) /\ m.at_ <= a /\ b <= m.aO
 | [], k => Or.inl rfl
 | x :: r, k => by
  simp only [eG]
  split
  ·rename_i hc
   exact Or.inr ⟨0, x, rfl, rfl, hc.1, hc.2.1⟩
  ·rcases zG T rg a b r (k + 1) with h | ⟨j, m, e1, e2, e3⟩
   ·exact Or.inl h
   ·exact Or.inr ⟨j + 1, m, by simpa using e1, by rw [e2, show k + 1 + j = k + (j + 1) by omega], e3⟩
def Xe (N : List Int) : List Int := ((List.range N.length).filter (fun r => N[r]? == some (-1))).map (fun r : Nat => (r : Int))
theorem GM (N : List Int) (x : Int) : x ∈ Xe N ↔ ∃ r : Nat, x = (r : Int) /\ N[r]? = some (-1) := by
 unfold Xe
 rw [List.mem_map]
 constructor
 ·rintro ⟨r, h, rfl⟩
  rw [List.mem_filter] at h
  exact ⟨r, rfl, by simpa using h.2⟩
 ·rintro ⟨r, rfl, h⟩
  exact ⟨r, by rw [List.mem_filter, List.mem_range]; exact ⟨(List.getElem?_eq_some_iff.1 h).1, by simpa using h⟩, rfl⟩
theorem A3 {e : PT} {ns : List NR} {n0 : NR} (hnn : cJ e) (hN : Yk e ns n0) (hL : Da (gO e ns n0) (jl e ns n0) ns (tj e ns n0)) : fk (Xe (jl e ns n0)) (e.lay (gO e ns n0) (jl e ns n0) 0) := by
 obtain ⟨lo, hi, hp⟩ := hN.pos
 have hlen := hN.na.len
 refine xA hL.pr e ns lo hi 0 _ hp (fun k n hn => by rw [Nat.zero_add]; exact hn) hN.na.D6 hnn (fun i n i1 i2 hn h4 => ?_)
 have hr := (hL.pr i n hn).1 h4
 obtain ⟨r, qR⟩ : ∃ r : Nat, jJ (gO e ns n0) i = (r : Int) := ⟨(jJ (gO e ns n0) i).toNat, by omega⟩
 have hty := hL.ty i n hn
 have aaj : (ai (tj e ns n0) ((0 + i : Nat) : Int)).has r = true := by
  rw [Nat.zero_add, hty]
  unfold cH
  have : (fC n (jJ (gO e ns n0) i)).form = 4 := h4
  simp only [this]
  simp only [Nat.reduceEqDiff, if_false, if_true, fC, qR, Int.toNat_natCast]
  rw [P9]; simp
 have hrl : r < (uB e ns n0).length := by
  have h1 : jJ (gO e ns n0) i = lj (uB e ns n0) (bg (AW ns n0) n.at_) := by unfold gO; rw [tf _ _ ns i n hn, if_pos h4]
  unfold lj at h1
  split at h1
  ·rename_i x hx
   have := (List.findIdx?_eq_some_iff_getElem.1 hx).1
   omega
  ·omega
 obtain ⟨s1, s2, s3⟩ := xB (tj e ns n0) r ns 0 n0.aO n0.at_
 obtain ⟨sa, sb⟩ := s3 i n hn aaj
 have XU : (jl e ns n0)[r]? = some (eG (tj e ns n0) r (dz (tj e ns n0) r ns 0 n0.aO n0.at_).1 (dz (tj e ns n0) r ns 0 n0.aO n0.at_).2 ns 0) := by
  unfold jl ig
  rw [List.getElem?_map, List.getElem?_range hrl]
  rfl
 rcases zG (tj e ns n0) r (dz (tj e ns n0) r ns 0 n0.aO n0.at_).1 (dz (tj e ns n0) r ns 0 n0.aO n0.at_).2 ns 0 with hm | ⟨j, m, e1, e2, e3, e4⟩
 ·left
  rw [hm] at XU
  exact (GM _ _).2 ⟨r, qR, XU⟩
 ·right
  refine ⟨j, m, Nat.zero_le _, by have := (List.getElem?_eq_some_iff.1 e1).1; omega, e1, ?_, by omega, by omega⟩
  rw [qR, Int.toNat_natCast, XU, e2, Nat.zero_add]
theorem Mx {e : PT} {ns : List NR} (h : NA [] e 0 ns) : ∀ n, n ∈ bD ns (opn e 0) ↔ n ∈ ns := by
 have hl := h.len
 have ho := yI h
 intro n
 unfold bD
 rw [List.mem_map]
 constructor
 ·rintro ⟨x, hx, rfl⟩
  obtain ⟨h1, h2⟩ := ho.2 x hx
  rw [List.getElem?_eq_getElem h2]
  exact List.getElem_mem h2
 ·intro hn
  obtain ⟨i, hi, he⟩ := List.getElem_of_mem hn
  exact ⟨(i : Int), AV e 0 i (Nat.zero_le _) (by omega), by rw [Int.toNat_natCast, List.getElem?_eq_getElem hi, he]; rfl⟩
theorem Jj {l : List NR} (h : (l.map (·.region)).Nodup) : ∀ a ∈ l, ∀ b ∈ l, a.region = b.region -> a = b := by
 induction l with
 | nil => intro a ha; simp at ha
 | cons x r ih =>
  rw [List.map_cons, List.nodup_cons] at h
  intro a ha b hb e
  rcases List.mem_cons.1 ha with ha | ha
  ·rcases List.mem_cons.1 hb with hb | hb
   ·rw [ha, hb]
   ·exact absurd (List.mem_map.2 ⟨b, hb, by rw [<- e, ha]⟩) h.1
  ·rcases List.mem_cons.1 hb with hb | hb
   ·exact absurd (List.mem_map.2 ⟨a, ha, by rw [e, hb]⟩) h.1
   ·exact ih h.2 a ha b hb e
theorem My {e : PT} {T : Ty} {N : List Int} {ns : List NR} {lo hi k : Nat} (hwr : mU [] e T) (hnd : e.tu.Nodup) (hin : Mt N 0 k e.tu) (ui : fk (Xe N) e) (bq : NA [] e 0 ns) (hpo : dc e ns lo hi) : qd ns (opn e 0) = (0, 0) := by
 have ke := GI ns e [] 0 ns bq (fun j _ => by rw [Nat.zero_add])
 have hnk := tz (bD ns (opn e 0)) [] (by rw [List.nil_append, ke]; exact hnd)
 rw [List.nil_append] at hnk
 have aak := Jj (l := (bD ns (opn e 0)).filter f12) (by rw [ke]; exact hnd)
 have hall := Mx bq
 have hout := GJ ((bD ns (opn e 0)).filter f12) (bD ns (opn e 0)) (fun n hn h4 o ho => by
  have hn := (hall n).1 hn
  have hom : o ∈ (bD ns (opn e 0)).filter f12 := List.mem_of_find?_eq_some ho
  have gP : o.region = n.region := by simpa using List.find?_some ho
  rcases r9 e _ [] 0 ns lo hi ui bq hpo n hn h4 with hr | ⟨o', BV, h12, Qd, h5⟩
  ·exfalso
   obtain ⟨r, e1, e2⟩ := (GM _ _).1 hr
   have : o.region ∈ e.tu := by rw [<- ke]; exact List.mem_map.2 ⟨o, hom, rfl⟩
   obtain ⟨r', i, f1, f2, _⟩ := hin _ this
   have : r = r' := by omega
   subst this
   rw [e2] at f2
   simp only [Option.some.injEq] at f2
   omega
  ·have : o = o' := aak o hom o' (List.mem_filter.2 ⟨(hall o').2 BV, by simp [f12, h12]⟩) (by rw [gP, Qd])
   rw [this]; exact h5)
 obtain ⟨A, _, hpl⟩ := hwr.plw [] [] ns bq (fun s U hs => by simp [look] at hs)
 unfold qd
 rw [hnk]
 simp only [ne_eq, not_true_eq_false, if_false, hout]
 exact hpl.pl
structure MI (m : MM) : Prop where
 live : m.live = ik m.regs
 most : m.live <= m.most
 some : 0 < m.cells.length -> 0 < m.most
theorem MI.of {m m' : MM} (h : MI m) (h1 : m'.regs = m.regs) (h2 : m'.live = m.live) (h3 : m'.most = m.most) (h4 : m'.cells = m.cells) : MI m' := ⟨by rw [h1, h2]; exact h.live, by rw [h2, h3]; exact h.most, by rw [h3, h4]; exact h.some⟩
theorem MI.stop {m : MM} (h : MI m) (k : Nat) : MI (m.stop k) := by unfold MM.stop; split <;> first | exact h | exact h.of rfl rfl rfl rfl
theorem MI.name {m : MM} (h : MI m) (i : Int) (v : MV) : MI (m.name i v) := by unfold MM.name; split <;> first | exact h | exact h.of rfl rfl rfl rfl
theorem MI.opn {m : MM} (h : MI m) (k : Int) : MI (m.opn k) := ⟨by simp only [MM.opn, jx, ik]; rw [h.live]; omega, h.most, h.some⟩
theorem MI.fin {m : MM} (h : MI m) : MI m.fin := by
 unfold MM.fin
 cases e : m.regs.getLast? with
 | none => exact h
 | some r =>
  have hs : ik m.regs = ik m.regs.dropLast + r.cells := by
   obtain ⟨ys, hy⟩ := List.getLast?_eq_some_iff.1 e
   rw [hy, List.dropLast_concat, jx]; simp [ik]
  exact ⟨by simp only; rw [h.live, hs]; omega, by have := h.most; simp only; omega, h.some⟩
theorem MI.cell {m : MM} (h : MI m) (k : Int) (a b : MV) : MI (m.aZ k a b).2 := by
 unfold MM.aZ
 cases e : m.regs[m.home k]? with
 | none => exact h
 | some r =>
  have hs := nS m.regs (m.home k) r { r with cells := r.cells + 1 } e
  have hl := h.live
  simp only at hs
  refine ⟨by simp only; omega, ?_, fun _ => ?_⟩
  ·simp only; split <;> omega
  ·simp only; split <;> omega
theorem MI.begun {fuel : Nat} {m : MM} {f : MM -> MV × MM} (hm : MI m) (h : ∀ m', MI m' -> MI (f m').2) : MI (bn fuel m f).2 := by
 unfold bn
 by_cases hq : fuel <= m.steps
 ·simp only [if_pos hq]
  split
  ·exact hm.stop 12
  ·exact h _ ((hm.stop 12).of rfl rfl rfl rfl)
 ·simp only [if_neg hq]
  split
  ·exact hm
  ·exact h _ (hm.of rfl rfl rfl rfl)
theorem MI.turns {i : Int} {f : MM -> MV × MM} (hf : ∀ m, MI m -> MI (f m).2) : ∀ (k : Nat) (v : MV) (m : MM), MI m -> MI (cP i f k v m).2
 | 0, v, m, h => h
 | k + 1, v, m, h => by
  simp only [cP]
  split
  ·exact h
  ·exact MI.turns hf k _ _ (hf _ (h.name i v))
theorem Xf (fuel : Nat) (t : PT) : ∀ (sc : Sc) (base : Nat) (m : MM), MI m -> MI (mW fuel t sc base m).2 := by
 induction t using PT.ind with
 | h1 p s => intro sc base m hm; simp only [mW]; exact hm.begun (fun m' h => h)
 | h2 p s => intro sc base m hm; simp only [mW]; exact hm.begun (fun m' h => h)
 | h3 p k nm rg kids ih =>
  intro sc base m hm
  simp only [mW]
  split
  ·match kids, ih with
   | [], _ => exact hm
   | [a], ih => simp only [vX]; exact (ih a (by simp) sc base _ (hm.opn _)).fin
   | _ :: _ :: _, _ => exact hm
  ·refine hm.begun (fun m' hm' => ?_)
   clear hm m
   split
   ·match kids, ih with
    | [], _ => exact hm'
    | [_], _ => exact hm'
    | [a, b], ih => simp only [Ah]; exact ih b (by simp) _ _ _ ((ih a (by simp) sc base m' hm').name _ _)
    | _ :: _ :: _ :: _, _ => exact hm'
   ·split
    ·match kids, ih with
     | [], _ => exact hm'
     | [_], _ => exact hm'
     | [_, _], _ => exact hm'
     | [a, b, c], ih =>
      simp only [Om]
      have h1 := ih a (by simp) sc base m' hm'
      split
      ·exact ih b (by simp) _ _ _ h1
      ·exact ih c (by simp) _ _ _ h1
     | _ :: _ :: _ :: _ :: _, _ => exact hm'
    ·split
     ·match kids, ih with
      | [], _ => exact hm'
      | [_], _ => exact hm'
      | [_, _], _ => exact hm'
      | [a, b, c], ih =>
       simp only [rF]
       exact MI.turns (fun m'' aal => ih c (by simp) _ _ m'' aal) _ _ _ (ih b (by simp) sc (base + a.cnt) _ (ih a (by simp) sc base m' hm'))
      | _ :: _ :: _ :: _ :: _, _ => exact hm'
     ·match kids, ih with
      | [], _ => exact hm'
      | [a], ih =>
       simp only [iK]
       have h1 := ih a (by simp) sc base m' hm'
       unfold MM.use
       split
       ·exact h1
       ·simp only
        split
        ·exact h1
        ·exact h1.stop 13
      | [a, b], ih =>
       simp only [iK]
       have h2 := ih b (by simp) sc (base + a.cnt) _ (ih a (by simp) sc base m' hm')
       split
       ·exact h2.cell _ _ _
       ·exact h2
      | _ :: _ :: _ :: _, _ => exact hm'
theorem counts (fuel : Nat) (lO : fuel <= 20000) {t : PT} (hwf : t.wf) (hrg : t.mZ) (hcn : t.cnt <= 9000) {c : Nat} (hc : (mW fuel t [] 0 ((m0 t.cnt).opn (-1))).2.cells.length = c) : (mW fuel t [] 0 ((m0 t.cnt).opn (-1))).2.live <= (mW fuel t [] 0 ((m0 t.cnt).opn (-1))).2.most /\ (mW fuel t [] 0 ((m0 t.cnt).opn (-1))).2.most <= c /\ (0 < (mW fuel t [] 0 ((m0 t.cnt).opn (-1))).2.most ↔ 0 < c) := by
 have gB := MM.Ai (QA fuel t.cnt) (-1) (by omega) (by simp [m0])
 have hk := cQ fuel lO t [] 0 ((m0 t.cnt).opn (-1)) hwf hrg gB (by simp [m0, MM.opn]; omega)
 have hi := Xf fuel t [] 0 ((m0 t.cnt).opn (-1)) (MI.opn ⟨rfl, Int.le_refl _, fun h => by simp [m0] at h⟩ (-1))
 have hm := hk.1.most
 have h2 := hi.some
 rw [hc] at hm h2
 exact ⟨hi.most, hm.2, by omega, h2⟩
theorem Mz {x : KE} {t : Nat} (h : KT [] x t) (jm : x.bJ <= 75) (hlen : x.len <= 1308) (src : ByteArray) (hsrc : src = bs (x.pt []).tidy) :
  ∃ P : ByteArray, (∀ w, Lib.TabIs Tryz.prog w "internal/strconv.uint64pow10" .u64 Lib.pow10Tab -> Calls Tryz.prog 16 #[.string src] w fun v w' => v = .returned (.tuple #[.string P, .int .i64 (0 : Nat)]) /\ Below w.heap.size w w') /\
   (∀ w, Calls Tryz.prog 30 #[.string P] w fun v w' => v = .returned (.tuple #[.int .i64 (0 : Nat), .int .i64 (0 : Nat)]) /\ Below w.heap.size w w') /\
   ∀ f, f <= 20000 -> ∃ (v : Value) (E : Nat), ((ev f (x.pt []) [] ⟨0, 0, 0⟩).2.e = 12 /\ E = 12 /\ v = .agg #[.string ⟨#[]⟩, .int .i64 0, .int .i64 0, .int .i64 0, .int .i64 0] \/ (ev f (x.pt []) [] ⟨0, 0, 0⟩).2.e = 0 /\ E = 0 /\ ∃ c d : Int, v = .agg #[.string (bs (ev f (x.pt []) [] ⟨0, 0, 0⟩).1.txt), .int .i64 (ev f (x.pt []) [] ⟨0, 0, 0⟩).2.steps, .int .i64 (ev f (x.pt []) [] ⟨0, 0, 0⟩).2.cells, .int .i64 c, .int .i64 d] /\ d <= c /\ c <= (ev f (x.pt []) [] ⟨0, 0, 0⟩).2.cells /\ (0 < c ↔ 0 < (ev f (x.pt []) [] ⟨0, 0, 0⟩).2.cells)) /\
    ∀ w, Lib.TabIs Tryz.prog w "internal/strconv.uint64pow10" .u64 Lib.pow10Tab -> Calls Tryz.prog 18 #[.string P, .int .i64 f] w fun r w' => r = .returned (.tuple #[v, .int .i64 E]) /\ Below w.heap.size w w' := by
 obtain ⟨e, hpe, Mf, xO, pI⟩ := L7 (ae := false) (rg := []) rfl h (by omega)
 have MA := EK (rg := []) h
 have hsl : src.data.toList = (x.pt []).tidy := by rw [hsrc]; simp [bs]
 have yj : src.size <= 3000 := by rw [hsrc, dm]; simp at MA; omega
 rw [<- hsl] at hpe
 obtain ⟨ns, n0, hN, hL, Yl⟩ := yo src yj e hpe Mf
 have jU := (hpe.bN (gI _)).1
 obtain ⟨⟨_, hnn⟩, _⟩ := PE.plain hpe (gI _)
 obtain ⟨e2, T', Fg, QU, Mr, hwr, aam, xN, he2⟩ := PH h jm hlen xO jU hnn hN hL
 have ui : fk (Xe (jl e ns n0)) e2 := zF e2 _ (by rw [he2]; exact A3 hnn hN hL)
 have ke : e2.tu = (e.lay (gO e ns n0) (jl e ns n0) 0).tu := by rw [<- Mv e2, he2]
 obtain ⟨hnd, hin⟩ := PJ (gO e ns n0) (jl e ns n0) e hnn
 rw [<- ke] at hnd hin
 obtain ⟨TX, hTX⟩ : ∃ TX, TX = e.uJ (gO e ns n0) (jl e ns n0) 0 := ⟨_, rfl⟩
 rw [<- hTX] at Yl Fg xN
 have hd : (bs TX).data.toList = TX := by simp [bs]
 refine ⟨bs TX, Yl, A2 (bs TX) (by rw [dm]; exact xN) e2 (by rw [hd]; exact Fg) QU (0, 0) (fun ms lo hi bq hpo => My hwr hnd hin ui bq hpo), fun f hf => ?_⟩
 have hrg := AP e2 (Fg.bN (gI _)).1 (Fg.uR (sU _)).1
 have o6 : e2.cnt <= 9000 := by have := iZ (s := bs TX) (by rw [hd]; exact Fg); rw [dm] at this; omega
 have hlen : ((m0 e2.cnt).opn (-1)).named.length = e2.cnt := by simp [m0, MM.opn]
 have her : ER ((m0 e2.cnt).opn (-1)).named ((m0 e2.cnt).opn (-1)).cells [] [] [] 0 := fun s T h => by simp [look] at h
 have hs0 : Sw f ⟨0, 0, 0⟩ ((m0 e2.cnt).opn (-1)) := ⟨rfl, rfl, rfl, Nat.zero_le _, rfl, by simp [m0, MM.opn]⟩
 have Jg := Mb f Mr [] 0 ((m0 e2.cnt).opn (-1)) [] ⟨0, 0, 0⟩ hrg her (by rw [hlen]; omega) hs0
 have hlv := (Gx f hwr [] 0 ((m0 e2.cnt).opn (-1)) (fun s U hs => by simp [look] at hs) (by rw [hlen]; omega) rfl (by simp [m0, MM.opn])).ok
 obtain ⟨v, E, cN, Ur, hRu⟩ := tq (bs TX) (by rw [dm]; exact xN) e2 _ (by rw [hd]; exact Fg) QU Mr (by have := rW t; omega) f hf
 rw [aam] at cN Jg
 refine ⟨v, E, ?_, hRu⟩
 rcases cN with ⟨g, _⟩ | ⟨g1, g2, g3⟩ | ⟨g1, g2, g3⟩
 ·exact absurd g (Ur T' hwr)
 ·exact Or.inl ⟨g1, g2, g3⟩
 ·have hcc : (mW f e2 [] 0 ((m0 e2.cnt).opn (-1))).2.cells.length = (ev f (x.pt []) [] ⟨0, 0, 0⟩).2.cells := by
   rcases Jg with ⟨h1, _, _⟩ | hB | hD
   ·exact h1.c
   ·rw [hB.1] at g1; cases g1
   ·rcases hlv with h12 | ⟨h0, _⟩
    ·rw [hD] at h12; cases h12
    ·rw [hD] at h0; cases h0
  obtain ⟨c1, c2, c3⟩ := counts f hf Fg.wf hrg o6 hcc
  exact Or.inr ⟨g1, g2, _, _, g3, c1, c2, c3⟩
theorem zH (t g : Int) (ra : Option Addr) (rn rc : Nat) (w : World) (x : KE) (f : Nat) (src P US VS : ByteArray) (Ua Ub Uc Ud Va Vb Vc Vd : Int) (E : Nat) (ends : Bool) (hA : (ends = false /\ E = 12 /\ VS = ⟨#[]⟩ /\ Va = 0 /\ Vb = 0 /\ Vc = 0 /\ Vd = 0) \/ (ends = true /\ E = 0 /\ VS = US /\ Va = Ua /\ Vb = Ub /\ Vd <= Vc /\ Vc <= Ub /\ (0 < Vc ↔ 0 < Ub)))
  (HBD : Hid (Calls Tryz.prog 21 #[.int .i64 t, .slice ra rn rc] w fun e w' => ∃ p, e = .returned (.pointer (some ⟨p, 0, none⟩)) /\ Below w.heap.size w w' /\ eH w' x p))
  (Uj : Hid (∀ W' p, Below w.heap.size w W' -> eH W' x p -> Calls Tryz.prog 22 #[.pointer (some ⟨p, 0, none⟩), .string ⟨#[]⟩] W' fun e w' => e = .returned (.string src) /\ Below W'.heap.size W' w'))
  (WD : Hid (∀ W, Calls Tryz.prog 23 #[.int .i64 g, .int .i64 20001] W fun e w' => e = .returned (.int .i64 f) /\ w' = W))
  (XE : Hid (∀ W, Below w.heap.size w W -> Calls Tryz.prog 16 #[.string src] W fun e w' => e = .returned (.tuple #[.string P, .int .i64 0]) /\ Below W.heap.size W w'))
  (HVT : Hid (∀ W, Calls Tryz.prog 30 #[.string P] W fun e w' => e = .returned (.tuple #[.int .i64 0, .int .i64 0]) /\ Below W.heap.size W w'))
  (HRU : Hid (∀ W, Below w.heap.size w W -> Calls Tryz.prog 18 #[.string P, .int .i64 f] W fun e w' => e = .returned (.tuple #[Mw VS Va Vb Vc Vd, .int .i64 E]) /\ Below W.heap.size W w'))
  (Sm : Hid (∀ W p, Below w.heap.size w W -> eH W x p -> Calls Tryz.prog 24 #[.pointer (some ⟨p, 0, none⟩), .int .i64 f] W fun e w' => e = .returned (.tuple #[Mw US Ua Ub Uc Ud, .bool ends]) /\ Below W.heap.size W w')) :
  Calls Tryz.prog 9 #[.int .i64 t, .slice ra rn rc, .int .i64 g] w fun e w' => e = .returned (.bool true) /\ Below w.heap.size w w' := by
 unfold Mw at Sm HRU
 have qQ : Hid _ := fun W => CY W
 go_enter Tryz.func9, Tryz.ntmps9
 go_wp2_with fail
 refine Calls.mono HBD.out ?_
 rintro _ w1 ⟨p, rfl, hb1, hk1⟩
 have dF : Hid _ := hb1
 have DN : Hid _ := hk1
 clear hb1 hk1 HBD
 go_wp2_with fail
 refine Calls.mono (Uj.out w1 p dF.out DN.out) ?_
 rintro _ w2 ⟨rfl, hb2⟩
 have dN : Hid _ := dF.out.trans (hb2.mono dF.out.size)
 have nk : Hid _ := DN.out.below hb2
 clear hb2 dF DN Uj
 go_wp2_with fail
 refine Calls.mono (WD.out w2) ?_
 rintro _ _ ⟨rfl, rfl⟩
 clear WD
 go_wp2_with fail
 refine Calls.mono (XE.out _ dN.out) ?_
 rintro _ w3 ⟨rfl, hb3⟩
 have iI : Hid _ := dN.out.trans (hb3.mono dN.out.size)
 have uw : Hid _ := nk.out.below hb3
 clear hb3 dN nk XE
 go_wp2_with fail
 refine Calls.mono (HVT.out w3) ?_
 rintro _ w3' ⟨rfl, zX⟩
 have PK : Hid _ := iI.out.trans (zX.mono iI.out.size)
 have Xg : Hid _ := uw.out.below zX
 clear zX iI uw HVT
 go_wp2_with fail
 refine Calls.mono (HRU.out w3' PK.out) ?_
 rintro _ w4 ⟨rfl, hb4⟩
 have hB4 := PK.out.trans (hb4.mono PK.out.size)
 have hal : Below w4.heap.size w4 (w4.alloc (.cells #[.string VS, .int .i64 Va, .int .i64 Vb, .int .i64 Vc, .int .i64 Vd] 23 (0, 0))) := cz (Below.refl _ _) _
 have oF : Hid _ := hB4.alloc hB4.size (.cells #[.string VS, .int .i64 Va, .int .i64 Vb, .int .i64 Vc, .int .i64 Vd] 23 (0, 0))
 have Re : Hid _ := aj w4 (.cells #[.string VS, .int .i64 Va, .int .i64 Vb, .int .i64 Vc, .int .i64 Vd] 23 (0, 0))
 have Bc : Hid _ := (Xg.out.below hb4).below hal
 clear hb4 hB4 hal PK Xg HRU
 go_wp2_with fail
 refine Calls.mono (Sm.out _ p oF.out Bc.out) ?_
 rintro _ w5 ⟨rfl, lY⟩
 have Qh := oF.out.trans (lY.mono oF.out.size)
 have wh := (lY.block _ (af Re.out)).trans Re.out
 have Bu : Hid _ := Qh.alloc Qh.size (.cells #[.string US, .int .i64 Ua, .int .i64 Ub, .int .i64 Uc, .int .i64 Ud] 23 (0, 0))
 obtain ⟨q0, q1, q2, q3, q4⟩ := ky wh
 have ql := af wh
 have qn := Nat.ne_of_lt ql
 clear lY Qh wh oF Re Bc Sm
 rcases hA with ⟨rfl, rfl, rfl, rfl, rfl, rfl, rfl⟩ | ⟨rfl, rfl, rfl, rfl, rfl, r1, r2, r3⟩
 ·go_wp2_with fail
  refine Calls.mono (qQ.out _) ?_
  rintro _ w6 ⟨rfl, hb6⟩
  have DX : Hid _ := Bu.out.trans (hb6.mono Bu.out.size)
  clear hb6 Bu
  go_wp2
  go_ret
  exact ⟨rfl, DX.out⟩
 ·have qS : (VS.toList == VS.toList) = true := by simp
  go_wp2
  go_ret
  exact ⟨rfl, Bu.out⟩
theorem MB (t g : Int) (rv : Value) (raw : List Int) (w : World) (ht : SF t) (hg : SF g) (h : Gd w rv raw) (htab : Lib.TabIs Tryz.prog w "internal/strconv.uint64pow10" .u64 Lib.pow10Tab) :
  Calls Tryz.prog 9 #[.int .i64 t, rv, .int .i64 g] w fun v w' => v = .returned (.bool true) /\ Below w.heap.size w w' := by
 obtain ⟨ra, rn, rc, rfl⟩ : ∃ ra rn rc, rv = .slice ra rn rc := by
  rcases h.2 with ⟨h1, _⟩ | ⟨a, cap, h1, _, _⟩
  ·exact ⟨_, _, _, h1⟩
  ·exact ⟨_, _, _, h1⟩
 have gB := IJ w t (.slice ra rn rc) raw ht h
 obtain ⟨Ym, hlen, Jf, _⟩ := Ln t raw
 generalize qG t raw = x at *
 have MA := EK (rg := []) Ym
 have Av := IZ [] Ym (by simp)
 have hpk := fun W => wS g 20001 W hg (by omega) (by omega)
 have hfl := oh g 20001 (by omega)
 obtain ⟨f, hf⟩ : ∃ f, f = jM g 20001 := ⟨_, rfl⟩
 rw [<- hf] at hpk hfl
 obtain ⟨src, hsrc⟩ : ∃ src, src = bs (x.pt []).tidy := ⟨_, rfl⟩
 have hit : ∀ W, Below w.heap.size w W -> vJ W := fun W hW => by
  intro n W' hn hW'
  exact uH w htab n W' hn (hW.trans (hW'.mono hW.size))
 obtain ⟨P, Yl, hVt, hRf⟩ := Mz Ym Jf hlen src hsrc
 obtain ⟨v, E, cN, hRu⟩ := hRf f (by omega)
 obtain ⟨R, hR⟩ : ∃ R, R = ev f (x.pt []) [] ⟨0, 0, 0⟩ := ⟨_, rfl⟩
 rw [<- hR] at cN
 have Yn : ∀ W p, Below w.heap.size w W -> eH W x p -> Calls Tryz.prog 24 #[.pointer (some ⟨p, 0, none⟩), .int .i64 f] W fun v w' => v = .returned (.tuple #[pN R, .bool (decide (R.2.e = 0))]) /\ Below W.heap.size W w' := fun W p hW hk =>
  E4 W x _ p f (by omega) Ym hk (fun W' hW' => hit W' (hW.trans (hW'.mono hW.size))) R hR
 have hTx : ∀ W p, Below w.heap.size w W -> eH W x p -> Calls Tryz.prog 22 #[.pointer (some ⟨p, 0, none⟩), .string ⟨#[]⟩] W fun v w' => v = .returned (.string src) /\ Below W.heap.size W w' := fun W p hW hk => by
  have := Av p W hk (by simp at MA; omega) (fun W' hW' => hit W' (hW.trans (hW'.mono hW.size)))
  rw [<- hsrc] at this; exact this
 have Xh := fun W (hW : Below w.heap.size w W) => Yl W (Lib.tabBelow_of_tabIs htab W hW)
 have Xi := fun W (hW : Below w.heap.size w W) => hRu W (Lib.tabBelow_of_tabIs htab W hW)
 rcases cN with ⟨g1, rfl, rfl⟩ | ⟨g1, rfl, c, d, rfl, g2, g3, g4⟩
 ·have hd : decide (R.2.e = 0) = false := by simp [g1]
  have hvR : pN R = Mw ⟨#[]⟩ 0 0 0 0 := by
   unfold pN
   rw [if_pos (by rw [g1]; decide)]; rfl
  rw [hvR, hd] at Yn
  exact zH t g ra rn rc w x f src P ⟨#[]⟩ ⟨#[]⟩ 0 0 0 0 0 0 0 0 12 false (Or.inl ⟨rfl, rfl, rfl, rfl, rfl, rfl, rfl⟩) gB hTx hpk Xh hVt Xi Yn
 ·have hd : decide (R.2.e = 0) = true := by simp [g1]
  have hvR : pN R = Mw (bs R.1.txt) R.2.steps R.2.cells R.2.cells R.2.cells := by
   unfold pN
   rw [if_neg (fun h => h g1)]; rfl
  rw [hvR, hd] at Yn
  exact zH t g ra rn rc w x f src P (bs R.1.txt) (bs R.1.txt) R.2.steps R.2.cells R.2.cells R.2.cells R.2.steps R.2.cells c d 0 true (Or.inr ⟨rfl, rfl, rfl, rfl, rfl, g2, g3, by omega⟩) gB hTx hpk Xh hVt Xi Yn
end Go.Proofs.YtpicaknklgccoaaGreatDoor
