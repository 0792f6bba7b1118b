import Derived.Test.YtpicaknklgccoaaGreatDoorS30
set_option maxHeartbeats 4000000
set_option maxRecDepth 100000
namespace Go.Proofs.YtpicaknklgccoaaGreatDoor
open Go.RowKit
open Go.Lib (decDigits)
theorem Tryz.Pj : (Tryz.prog.info? 104).map (fun i => (i.zero, i.size, i.bytes)) = some (some (.pointer none), 1, 8) := by kernel_rfl
theorem Tryz.Pk : Tryz.prog.underlying 101 = some (.slice 104) := by kernel_rfl
theorem QK {w0 : World} {yb fuel : Nat} (b q : Nat) (vals : List Vl) (ps : List Nat) (v : Vl) (st : cd) (nv : Value) (w : World) (R : Vl × cd)
  (hf : ∀ (nv : Value) (w : World), du w0 w yb (vals ++ [v]) (ps ++ [q]) fuel st nv -> Calls Tryz.prog 51 #[.pointer (some ⟨yb, 0, none⟩), .pointer (some ⟨b, 0, none⟩)] w fun e w' => ∃ r bw, e = .returned (.pointer (some ⟨r, 0, none⟩)) /\ cF w w' yb nv bw /\ du w0 w' yb (vals ++ [v]) (ps ++ [q]) fuel R.2 bw /\ dr w' R.1 r)
  (h : du w0 w yb vals ps fuel st nv) (hq : dr w v q) (hl : vals.length <= 200) :
  Calls Tryz.prog 85 #[.pointer (some ⟨yb, 0, none⟩), .pointer (some ⟨q, 0, none⟩), .pointer (some ⟨b, 0, none⟩)] w fun e w' => ∃ r bw, e = .returned (.pointer (some ⟨r, 0, none⟩)) /\ cF w w' yb nv bw /\ du w0 w' yb vals ps fuel R.2 bw /\ dr w' R.1 r := by
 obtain ⟨i0, hi, hz0, hz1, hz2⟩ := info_parts Tryz.Pj
 have HI : Hid _ := hi
 have pq : Hid _ := hz0
 have pz : Hid _ := hz1
 have pF : Hid _ := hz2
 have HH : Hid _ := h
 have nj := af h.ob.y
 have hpl := h.len
 have aaT : ps.length <= 200 := by omega
 obtain ⟨na, nc, oP, _, _⟩ := h.ob.shape
 rw [fe] at oP
 have y3 : w.cell? ⟨yb, 0, none⟩ = some (.slice na ps.length nc) := by rw [aa h.ob.y, <- oP]; rfl
 have f3 : w.frozen? ⟨yb, 0, none⟩ = false := ag h.ob.y 0
 have hown : w.ownsRow 0 104 1 (.slice na ps.length nc) ps.length (mS ps) := by
  have := cY (base' := 0) h.ob.n (fun _ _ => Nat.zero_le _)
  rw [fe, oP] at this; exact this
 have DI : Hid _ := oP
 have dS : Hid (w.ownsRow 0 104 1 (.slice na ps.length nc) ps.length (mS ps)) := hown
 have Wu : Hid _ := hf
 have HQ : Hid _ := hq
 clear hi hz0 hz1 hz2 hown oP h hf hq hpl
 go_enter Tryz.func85, Tryz.ntmps85
 go_wp2_with (at_builtin; go_must (refine oC _ rfl (.tmp 18) (.tmp 20) 101 rfl 104 i0 _ 1 8 Tryz.Pk HI.out pq.out pz.out pF.out rfl (by decide) (.slice na ps.length nc) ps.length (mS ps) rfl (dS.out.alloc _) ⟨w.heap.size, 0, none⟩ 1 1 [.pointer (some ⟨q, 0, none⟩)] rfl rfl ?d1 ?d2 (by decide) ?d3 ?d4 ?_))
 case d1 =>
  intro j' u hj'
  match j', hj' with
  | 0, hj' => simp at hj'; subst hj'; simp [Addr.add]
  | j' + 1, hj' => simp at hj'
 case d2 => intro u hu; simp at hu; subst hu; rfl
 case d3 => unfold maxLen; omega
 case d4 => omega
 intro g1 c1 w3 NK SH Lu
 have gu := jH.push (x := .pointer (some ⟨q, 0, none⟩)) (o := 0) (W := w3.setCell ⟨yb, 0, none⟩ (.slice (some ⟨g1, 0, none⟩) (ps.length + 1) c1)) HH.out.ob (by rw [DI.out]; exact SH) (by rw [fe]; exact NK) (by rw [DI.out]; simpa using Lu) (by rw [fe])
 rw [fe] at gu
 obtain ⟨Wv, hs1⟩ := gu
 have lQ : du w0 (w3.setCell ⟨yb, 0, none⟩ (.slice (some ⟨g1, 0, none⟩) (ps.length + 1) c1)) yb (vals ++ [v]) (ps ++ [q]) fuel st (.slice (some ⟨g1, 0, none⟩) (ps.length + 1) c1) := by
  refine ⟨?_, by simp [HH.out.len], ?_⟩
  ·rw [xd]; exact Wv
  ·intro i u p h1 h2
   rcases Nat.lt_or_ge i vals.length with hlt | hge
   ·rw [List.getElem?_append_left hlt] at h1
    rw [List.getElem?_append_left (by rw [HH.out.len]; exact hlt)] at h2
    exact (HH.out.v i u p h1 h2).fr HH.out.ob hs1
   ·rw [List.getElem?_append_right hge] at h1
    rw [List.getElem?_append_right (by rw [HH.out.len]; exact hge), HH.out.len] at h2
    have hi0 : i - vals.length = 0 := by
     rcases Nat.eq_zero_or_pos (i - vals.length) with h | h
     ·exact h
     ·rw [List.getElem?_eq_none (by simp; omega)] at h1; cases h1
    rw [hi0] at h1 h2
    simp only [List.getElem?_cons_zero, Option.some.injEq] at h1 h2
    subst h1; subst h2
    exact HQ.out.fr HH.out.ob hs1
 have hcall := Wu.out _ _ lQ
 have O6 : w3.heap[yb]? = some (.cells (dn nv fuel st) 103 (0, 0)) := by
  rw [SH.block yb (by simp; omega) (fun e => HH.out.ob.ny (by rw [DI.out]; exact e.symm)), Below.heap_alloc _ _ _ nj]; exact HH.out.ob.y
 have ZT := af O6
 have ZU : w3.cell? ⟨yb, 0, none⟩ = some nv := by rw [aa O6]; rfl
 have f33 : w3.frozen? ⟨yb, 0, none⟩ = false := ag O6 0
 have HC : Hid _ := hcall
 have Hm : Hid _ := hs1
 clear NK SH Lu Wv O6 y3 f3 hcall lQ hs1 Wu dS HQ
 go_wp2_with fail
 refine Calls.mono HC.out ?_
 rintro _ w7 ⟨r, V8, rfl, aS, O7, Ww⟩
 obtain ⟨na7, AG, sZ, Lv, ED⟩ := O7.ob.shape
 have Al := O7.ob
 rw [fe, List.length_append, List.length_singleton] at sZ ED Lv
 obtain ⟨g7, Wx⟩ := ED (by omega)
 rw [Wx] at sZ
 have y37 : w7.cell? ⟨yb, 0, none⟩ = some (.slice (some ⟨g7, 0, none⟩) (ps.length + 1) AG) := by rw [aa Al.y, <- sZ]; rfl
 have f37 : w7.frozen? ⟨yb, 0, none⟩ = false := ag Al.y 0
 have ZV := af Al.y
 have hP : jH w0 (w7.setCell ⟨yb, 0, none⟩ (.slice (some ⟨g7, 0, none⟩) ps.length AG)) yb (dn (.slice (some ⟨g7, 0, none⟩) ps.length AG) fuel R.2) 103 (.slice (some ⟨g7, 0, none⟩) ps.length AG) 104 (mS ps) := by
  have h1 := Al
  rw [xd, sZ] at h1
  have h2 := jH.pop (o := 0) (xs := mS ps) (x := .pointer (some ⟨q, 0, none⟩)) (g := g7) (cap := AG) (by rw [fe]; exact h1)
  rw [fe] at h2
  exact h2
 have hfs := cF.wR w7 yb V8 0 (.slice (some ⟨g7, 0, none⟩) ps.length AG)
 have Un : Hid (du w0 (w7.setCell ⟨yb, 0, none⟩ (.slice (some ⟨g7, 0, none⟩) ps.length AG)) yb vals ps fuel R.2 (.slice (some ⟨g7, 0, none⟩) ps.length AG)) := by
  refine ⟨hP, HH.out.len, fun i u p h1 h2 => ?_⟩
  have hiv := (List.getElem?_eq_some_iff.1 h1).1
  refine (O7.v i u p ?_ ?_).fr Al hfs
  ·rw [List.getElem?_append_left hiv]; exact h1
  ·rw [List.getElem?_append_left (by rw [HH.out.len]; exact hiv)]; exact h2
 have sJ : Hid _ := Ww.fr Al hfs
 have pV : Hid _ := ((Hm.out.trans aS).trans hfs).Lp (cq := .slice (some ⟨g7, 0, none⟩) ps.length AG) (by rw [sZ]; rfl)
 clear aS O7 Ww Al sZ ED Wx hP hfs HC Hm ZU f33
 go_wp2
 go_ret
 exact ⟨r, _, rfl, pV.out, Un.out, sJ.out⟩
structure rX (fuel : Nat) (st : cd) : Prop where
 f : fuel <= 20000
 s : st.steps <= fuel
 c : st.cells <= st.steps
theorem rX.on {fuel : Nat} {st : cd} (h : rX fuel st) (t : PT) (env : dU) : rX fuel (ev fuel t env st).2 := by
 have h1 := iD fuel t env st h.s
 exact ⟨h.f, h1.1, by have := h.c; omega⟩
theorem rX.step {fuel : Nat} {st : cd} (hs : rX fuel st) (hq : st.steps ≠ fuel) : rX fuel { st with steps := st.steps + 1 } :=
 ⟨hs.f, by have := hs.s; show st.steps + 1 <= fuel; omega, by have := hs.c; show st.cells <= st.steps + 1; omega⟩
def I1 (w0 : World) (yb fuel : Nat) (x : KE) (vs : List Nat) : Prop :=
 ∀ (b : Nat) (vals : List Vl) (ps : List Nat) (st : cd) (nv : Value) (w : World), eH w0 x b -> du w0 w yb vals ps fuel st nv -> (st.e = 0 -> oo (cf vals) (wZ vs)) -> vals.length = vs.length -> rX fuel st ->
  Calls Tryz.prog 51 #[.pointer (some ⟨yb, 0, none⟩), .pointer (some ⟨b, 0, none⟩)] w fun e w' => ∃ r bw, e = .returned (.pointer (some ⟨r, 0, none⟩)) /\ cF w w' yb nv bw /\ du w0 w' yb vals ps fuel (ev fuel (x.pt []) (cf vals) st).2 bw /\ dr w' (ev fuel (x.pt []) (cf vals) st).1 r
def CP (w0 : World) (yb fuel : Nat) (x : KE) (vs : List Nat) : Prop :=
 ∀ (b : Nat) (vals : List Vl) (ps : List Nat) (st : cd) (nv : Value) (w : World), eH w0 x b -> du w0 w yb vals ps fuel st nv -> oo (cf vals) (wZ vs) -> vals.length = vs.length -> rX fuel st -> st.e = 0 -> st.steps ≠ fuel ->
  Calls Tryz.prog 51 #[.pointer (some ⟨yb, 0, none⟩), .pointer (some ⟨b, 0, none⟩)] w fun e w' => ∃ r bw, e = .returned (.pointer (some ⟨r, 0, none⟩)) /\ cF w w' yb nv bw /\ du w0 w' yb vals ps fuel (ev fuel (x.pt []) (cf vals) st).2 bw /\ dr w' (ev fuel (x.pt []) (cf vals) st).1 r
theorem EV {fuel : Nat} {st : cd} {f : cd -> Vl × cd} (h : st.e ≠ 0) : begun fuel st f = (.n 0, st) := by unfold begun; rw [if_pos h]
theorem EW {fuel : Nat} {st : cd} {f : cd -> Vl × cd} (h0 : st.e = 0) (h : st.steps = fuel) : begun fuel st f = (.n 0, { st with e := 12 }) := by unfold begun; rw [if_neg (by simpa using h0), if_pos h]
theorem ji {fuel : Nat} {st : cd} {f : cd -> Vl × cd} (h0 : st.e = 0) (h : st.steps ≠ fuel) : begun fuel st f = f { st with steps := st.steps + 1 } := by unfold begun; rw [if_neg (by simpa using h0), if_neg h]
theorem I2 (fuel : Nat) (t : PT) (env : dU) : ∃ f, ∀ st, ev fuel t env st = begun fuel st f := by
 cases t with
 | num p s => exact ⟨_, fun st => by unfold ev; rfl⟩
 | name p s => exact ⟨_, fun st => by unfold ev; rfl⟩
 | node p k nm rg kids => exact ⟨_, fun st => by unfold ev; rfl⟩
theorem rY (w : World) (m : Nat) (p : Addr) (x : Value) (O : Obj) : (((w.drewN m).setCell p x).alloc O).heap[w.heap.size]? = some O := by
 have h := aj ((w.drewN m).setCell p x) O
 have e : ((w.drewN m).setCell p x).heap.size = w.heap.size := by simp [World.setCell, World.drewN]
 rw [e] at h; exact h
def Nl : Obj := .cells (Nk 0 (.pointer none) (.pointer none)) 141 (0, 0)
theorem kV {w0 : World} {yb fuel : Nat} {x : KE} {vs : List Nat} (h : CP w0 yb fuel x vs) : I1 w0 yb fuel x vs := by
 intro b vals ps st nv w hx hin aW hlen hs
 obtain ⟨f, hf⟩ := I2 fuel (x.pt []) (cf vals)
 have y1 : w.cell? ⟨yb, 1, none⟩ = some (.int .i64 fuel) := by rw [aa hin.ob.y]; rfl
 have y2 : w.cell? ⟨yb, 2, none⟩ = some (.int .i64 st.steps) := by rw [aa hin.ob.y]; rfl
 have y4 : w.cell? ⟨yb, 4, none⟩ = some (.bool (decide (st.e ≠ 0))) := by rw [aa hin.ob.y]; rfl
 have f4 : w.frozen? ⟨yb, 4, none⟩ = false := ag hin.ob.y 4
 have nj := af hin.ob.y
 by_cases he : st.e = 0
 ·by_cases hq : st.steps = fuel
  ·rw [hf, EW he hq]
   have q1 : ((st.steps : Int) == (fuel : Int)) = true := by rw [hq]; simp
   rw [show decide (st.e ≠ 0) = false by simp [he]] at y4
   have hset := fun m => (hin.grow (cM w m)).set 4 (.bool true) (st' := { st with e := 12 }) rfl
   have Aa : Hid _ := hset
   clear hx hin aW hs hset h hf he hq
   go_enter Tryz.func51, Tryz.ntmps51
   go_wp2
   go_quiet (fail)
   go_wp2
   go_ret
   exact ⟨_, nv, rfl, (cF.setAt w yb nv _ 4 _).trans (cF.below (aY (Below.refl _ _) Nl) _ _), (Aa.out _).grow (aY (Below.refl _ _) Nl), rY w _ _ _ Nl⟩
  ·exact h b vals ps st nv w hx hin (aW he) hlen hs he hq
 ·rw [hf, EV he]
  rw [show decide (st.e ≠ 0) = true by simp [he]] at y4
  have hset := fun m => (hin.grow (cM w m)).set 4 (.bool true) (st' := st) (by simp [dn, he])
  have Aa : Hid _ := hset
  clear hx hin aW hs h hf he hset
  go_enter Tryz.func51, Tryz.ntmps51
  go_wp2
  go_quiet (fail)
  go_wp2
  go_ret
  exact ⟨_, nv, rfl, (cF.setAt w yb nv _ 4 _).trans (cF.below (aY (Below.refl _ _) Nl) _ _), (Aa.out _).grow (aY (Below.refl _ _) Nl), rY w _ _ _ Nl⟩
structure CQ (w : World) (b c : Nat) (k : Kw) (n : Nat) (ks : List Nat) : Prop where
 hb : b < w.heap.size
 hg : c < w.heap.size
 c0 : w.cell? ⟨b, 0, none⟩ = some (.string (bs k.bytes))
 c1 : w.cell? ⟨b, 1, none⟩ = some (.int .i64 n)
 c2 : w.cell? ⟨b, 2, none⟩ = some (.slice (some ⟨c, 0, none⟩) ks.length ks.length)
 ck : ∀ (j x : Nat), ks[j]? = some x -> w.cell? ⟨c, j, none⟩ = some (.pointer (some ⟨x, 0, none⟩))
theorem CQ.on {w0 w : World} {b c : Nat} {k : Kw} {n : Nat} {ks : List Nat} (h : CQ w0 b c k n ks) (hw : Below w0.heap.size w0 w) : CQ w b c k n ks :=
 ⟨by have := hw.size; have := h.hb; omega, by have := hw.size; have := h.hg; omega, (hw.cell (p := ⟨b, 0, none⟩) h.hb).trans h.c0, (hw.cell (p := ⟨b, 1, none⟩) h.hb).trans h.c1, (hw.cell (p := ⟨b, 2, none⟩) h.hb).trans h.c2, fun j x hj => (hw.cell (p := ⟨c, j, none⟩) h.hg).trans (h.ck j x hj)⟩
theorem WI {w : World} {k : Kw} {a : KE} {b : Nat} (h : eH w (.n1 k a) b) : ∃ c pa, CQ w b c k 0 [pa] /\ eH w a pa := by
 obtain ⟨c, pa, h1, h2, h3⟩ := h
 refine ⟨c, pa, ⟨af h1, af h2, by rw [aa h1]; rfl, by rw [aa h1]; rfl, by rw [aa h1]; rfl, fun j x hj => ?_⟩, h3⟩
 match j, hj with
 | 0, hj => simp at hj; subst hj; rw [aa h2]; rfl
 | j + 1, hj => simp at hj
theorem QL {w : World} {k : Kw} {n : Nat} {a d : KE} {b : Nat} (h : eH w (.n2 k n a d) b) : ∃ c pa pb, CQ w b c k n [pa, pb] /\ eH w a pa /\ eH w d pb := by
 obtain ⟨c, pa, pb, h1, h2, h3, h4⟩ := h
 refine ⟨c, pa, pb, ⟨af h1, af h2, by rw [aa h1]; rfl, by rw [aa h1]; rfl, by rw [aa h1]; rfl, fun j x hj => ?_⟩, h3, h4⟩
 match j, hj with
 | 0, hj => simp at hj; subst hj; rw [aa h2]; rfl
 | 1, hj => simp at hj; subst hj; rw [aa h2]; rfl
 | j + 2, hj => simp at hj
theorem QM {w : World} {k : Kw} {n : Nat} {a d f : KE} {b : Nat} (h : eH w (.n3 k n a d f) b) : ∃ c pa pb pd, CQ w b c k n [pa, pb, pd] /\ eH w a pa /\ eH w d pb /\ eH w f pd := by
 obtain ⟨c, pa, pb, pd, h1, h2, h3, h4, h5⟩ := h
 refine ⟨c, pa, pb, pd, ⟨af h1, af h2, by rw [aa h1]; rfl, by rw [aa h1]; rfl, by rw [aa h1]; rfl, fun j x hj => ?_⟩, h3, h4, h5⟩
 match j, hj with
 | 0, hj => simp at hj; subst hj; rw [aa h2]; rfl
 | 1, hj => simp at hj; subst hj; rw [aa h2]; rfl
 | 2, hj => simp at hj; subst hj; rw [aa h2]; rfl
 | j + 3, hj => simp at hj
def Pl : Obj := .cells #[.pointer none, .pointer none] 142 (0, 0)
theorem du.begin {w0 w : World} {yb : Nat} {vals : List Vl} {ps : List Nat} {fuel : Nat} {st : cd} {nv : Value} (h : du w0 w yb vals ps fuel st nv) (m : Nat) :
  du w0 (((w.drewN m).setCell ⟨yb, 2, none⟩ (.int .i64 ((st.steps : Int) + 1))).alloc Pl) yb vals ps fuel { st with steps := st.steps + 1 } nv /\ cF w (((w.drewN m).setCell ⟨yb, 2, none⟩ (.int .i64 ((st.steps : Int) + 1))).alloc Pl) yb nv nv :=
 ⟨((h.grow (cM w m)).set 2 _ (by simp [dn])).grow (aY (Below.refl _ _) _), (cF.setAt w yb nv m 2 _).trans (cF.below (aY (Below.refl _ _) _) _ _)⟩
theorem I3 (w : World) (m : Nat) (p : Addr) (x : Value) (A O : Obj) : ((((w.drewN m).setCell p x).alloc A).alloc O).heap[w.heap.size + 1]? = some O := by
 have h := aj (((w.drewN m).setCell p x).alloc A) O
 have e : (((w.drewN m).setCell p x).alloc A).heap.size = w.heap.size + 1 := by simp [World.setCell, World.drewN]
 rw [e] at h; exact h
theorem Pm {w0 : World} (yb fuel n : Nat) (vs : List Nat) : CP w0 yb fuel (.num n) vs := by
 intro b vals ps st nv w hx hin aW hlen hs he hq
 have hx' : w0.heap[b]? = some (.cells (tY [] n (.slice none 0 0)) 98 (0, 0)) := hx
 have hb0 := af hx'
 have hne : b ≠ yb := by have := hin.ob.hyb; omega
 have hbx := (hin.ob.b0.block b hb0).trans hx'
 have hb := af hbx
 have x0 : w.cell? ⟨b, 0, none⟩ = some (.string ⟨#[]⟩) := by rw [aa hbx]; rfl
 have x1 : w.cell? ⟨b, 1, none⟩ = some (.int .i64 n) := by rw [aa hbx]; rfl
 have y1 : w.cell? ⟨yb, 1, none⟩ = some (.int .i64 fuel) := by rw [aa hin.ob.y]; rfl
 have y2 : w.cell? ⟨yb, 2, none⟩ = some (.int .i64 st.steps) := by rw [aa hin.ob.y]; rfl
 have y4 : w.cell? ⟨yb, 4, none⟩ = some (.bool false) := by rw [aa hin.ob.y]; simp [dn, he]
 have f2 : w.frozen? ⟨yb, 2, none⟩ = false := ag hin.ob.y 2
 have nj := af hin.ob.y
 have q1 : ((st.steps : Int) == (fuel : Int)) = false := by rw [beq_eq_false_iff_ne]; omega
 have yj := hs.s
 have Qx := hs.f
 have pI : ev fuel ((KE.num n).pt []) (cf vals) st = (.n n, { st with steps := st.steps + 1 }) := by
  simp only [KE.pt, ev]; rw [ji he hq, kq]; rfl
 rw [pI]
 have ym : Hid _ := fun m => hin.begin m
 clear hx hx' hin aW hlen hs he hq pI hbx
 go_enter Tryz.func51, Tryz.ntmps51
 go_wp2
 go_quiet (fail)
 go_wp2
 go_ret
 exact ⟨_, nv, rfl, (ym.out _).2.trans (cF.below (aY (Below.refl _ _) _) _ _), (ym.out _).1.grow (aY (Below.refl _ _) _), I3 w _ _ _ _ _⟩
theorem Pn {w0 : World} (yb fuel n : Nat) (vs : List Nat) (hn : n < vs.length) (hvl : vs.length <= 101) : CP w0 yb fuel (.var n) vs := by
 intro b vals ps st nv w hx hin aW hlen hs he hq
 have hx' : w0.heap[b]? = some (.cells (tY [120] n (.slice none 0 0)) 98 (0, 0)) := hx
 have hb0 := af hx'
 have hne : b ≠ yb := by have := hin.ob.hyb; omega
 have hbx := (hin.ob.b0.block b hb0).trans hx'
 have hb := af hbx
 have x0 : w.cell? ⟨b, 0, none⟩ = some (.string ⟨#[120]⟩) := by rw [aa hbx]; rfl
 have x1 : w.cell? ⟨b, 1, none⟩ = some (.int .i64 n) := by rw [aa hbx]; rfl
 have y1 : w.cell? ⟨yb, 1, none⟩ = some (.int .i64 fuel) := by rw [aa hin.ob.y]; rfl
 have y2 : w.cell? ⟨yb, 2, none⟩ = some (.int .i64 st.steps) := by rw [aa hin.ob.y]; rfl
 have y4 : w.cell? ⟨yb, 4, none⟩ = some (.bool false) := by rw [aa hin.ob.y]; simp [dn, he]
 have f2 : w.frozen? ⟨yb, 2, none⟩ = false := ag hin.ob.y 2
 have nj := af hin.ob.y
 have q1 : ((st.steps : Int) == (fuel : Int)) = false := by rw [beq_eq_false_iff_ne]; omega
 have yj := hs.s
 have Qx := hs.f
 have oP := hlen ▸ hn
 have xO : n < ps.length := by rw [hin.len]; exact oP
 have pI : ev fuel ((KE.var n).pt []) (cf vals) st = (vals[n], { st with steps := st.steps + 1 }) := by
  simp only [KE.pt, ev]; rw [ji he hq, IL vals n oP (by omega)]
 rw [pI]
 obtain ⟨na, nc, I4, _, bq⟩ := hin.ob.shape
 rw [fe] at I4 bq
 obtain ⟨g, hg⟩ := bq (by omega)
 rw [hg] at I4
 have y0 : w.cell? ⟨yb, 0, none⟩ = some (.slice (some ⟨g, 0, none⟩) ps.length nc) := by rw [aa hin.ob.y, <- I4]; rfl
 have hgc : w.cell? ⟨g, n, none⟩ = some (.pointer (some ⟨ps[n], 0, none⟩)) := by
  have ho := hin.ob.n
  rw [I4, fe] at ho
  rw [World.ownsRow.cellAt ho n (by omega)]; unfold mS; rw [List.getElem?_map, List.getElem?_eq_getElem xO]; rfl
 have hgl : g < w.heap.size := World.block_lt_of_cell? _ _ hgc
 have QG : g ≠ yb := by intro e; exact hin.ob.ny (by rw [I4, e]; rfl)
 have I5 := hin.v n vals[n] ps[n] (List.getElem?_eq_getElem oP) (List.getElem?_eq_getElem xO)
 have ym : Hid _ := fun m => hin.begin m
 have HOB : Hid _ := hin.ob
 have Yf : Hid _ := I5
 generalize hpn : ps[n] = pn at *
 clear hx hx' hin aW hlen hs he hq pI hbx I4 bq hg I5 hpn
 go_enter Tryz.func51, Tryz.ntmps51
 go_wp2
 go_quiet (fail)
 go_wp2
 go_quiet (fail)
 go_wp2
 go_ret
 exact ⟨_, nv, rfl, (ym.out _).2.trans (cF.below (cM _ _) _ _), (ym.out _).1.grow (cM _ _), (Yf.out.fr HOB.out (ym.out _).2).below (cM _ _)⟩
theorem Po {rg : List UInt8} : ∀ {vs : List Nat} {x : KE} {t : Nat}, KT vs x t -> (x.pt rg).bN := by
 intro vs x t h
 have hb : ∀ k n, (iB k n).length <= 9000 := fun k n => by unfold iB; split <;> simp [bF]
 induction h with
 | num h => simp only [KE.pt, PT.bN]; rw [kq]; omega
 | var _ => simp [KE.pt, PT.bN, bF]
 | bb _ _ _ _ ha hd => simp only [KE.pt, PT.bN, bG]; exact ⟨hb _ _, ha, hd, trivial⟩
 | fH _ _ _ ha hd hc => simp only [KE.pt, PT.bN, bG]; exact ⟨hb _ _, ha, hd, hc, trivial⟩
 | loop _ _ _ _ ha hd hc => simp only [KE.pt, PT.bN, bG]; exact ⟨hb _ _, ha, hd, hc, trivial⟩
 | pair _ _ _ _ ha hd => simp only [KE.pt, PT.bN, bG]; exact ⟨hb _ _, ha, hd, trivial⟩
 | fst _ _ _ ha => simp only [KE.pt, PT.bN, bG]; exact ⟨by simp, ha, trivial⟩
 | snd _ _ _ ha => simp only [KE.pt, PT.bN, bG]; exact ⟨by simp, ha, trivial⟩
 | two _ _ _ ha hd => simp only [KE.pt, PT.bN, bG]; exact ⟨hb _ _, ha, hd, trivial⟩
theorem LV {rg : List UInt8} : ∀ {vs : List Nat} {x : KE} {t : Nat}, KT vs x t -> cJ (x.pt rg) := by
 intro vs x t h
 induction h with
 | num _ => exact .num
 | var _ => exact .name
 | bb _ _ _ _ ha hd => simp only [KE.pt]; exact .node (by decide) (by intro y hy; simp only [List.mem_cons, List.not_mem_nil, or_false] at hy; rcases hy with rfl | rfl; exact ha; exact hd)
 | fH _ _ _ ha hd hc => simp only [KE.pt]; exact .node (by decide) (by intro y hy; simp only [List.mem_cons, List.not_mem_nil, or_false] at hy; rcases hy with rfl | rfl | rfl; exact ha; exact hd; exact hc)
 | loop _ _ _ _ ha hd hc => simp only [KE.pt]; exact .node (by decide) (by intro y hy; simp only [List.mem_cons, List.not_mem_nil, or_false] at hy; rcases hy with rfl | rfl | rfl; exact ha; exact hd; exact hc)
 | pair _ _ _ _ ha hd => simp only [KE.pt]; exact .node (by decide) (by intro y hy; simp only [List.mem_cons, List.not_mem_nil, or_false] at hy; rcases hy with rfl | rfl; exact ha; exact hd)
 | fst _ _ _ ha => simp only [KE.pt]; exact .node (by decide) (by intro y hy; simp only [List.mem_cons, List.not_mem_nil, or_false] at hy; subst hy; exact ha)
 | snd _ _ _ ha => simp only [KE.pt]; exact .node (by decide) (by intro y hy; simp only [List.mem_cons, List.not_mem_nil, or_false] at hy; subst hy; exact ha)
 | two hk _ _ ha hd => simp only [KE.pt]; exact .node (by rcases hk with rfl | rfl | rfl <;> decide) (by intro y hy; simp only [List.mem_cons, List.not_mem_nil, or_false] at hy; rcases hy with rfl | rfl; exact ha; exact hd)
theorem j0 {fuel : Nat} {vs : List Nat} {x : KE} {t : Nat} (h : KT vs x t) (hl : vs.length <= 100) (vals : List Vl) (st : cd) (aW : st.e = 0 -> oo (cf vals) (wZ vs)) : SV (uU t) st (ev fuel (x.pt []) (cf vals) st) :=
 SW fuel (LC h hl) (cf vals) st (Po h) (LV h) aW
theorem CR {st : cd} {r : Vl × cd} (h : SV .n st r) : ∃ k, r.1 = .n k /\ k <= 9999 := by
 by_cases e : r.2.e = 0
 ·exact mM (h.1 e).2
 ·exact ⟨0, h.2 e, by omega⟩
theorem Pp {w0 : World} (yb fuel : Nat) (vs : List Nat) (a d : KE) (v : Nat) (jU : KT vs a v) (hvl : vs.length < 100) (bI : I1 w0 yb fuel a vs) (LW : I1 w0 yb fuel d (vs ++ [v])) : CP w0 yb fuel (.n2 .bb vs.length a d) vs := by
 intro b vals ps st nv w hx hin aW hlen hs he hq
 obtain ⟨c, pa, pd, eK, lS, qX⟩ := QL hx
 have hne : b ≠ yb := by have := hin.ob.hyb; have := eK.hb; omega
 have QG : c ≠ yb := by have := hin.ob.hyb; have := eK.hg; omega
 have pI : ev fuel ((KE.n2 .bb vs.length a d).pt []) (cf vals) st = ev fuel (d.pt []) (cf (vals ++ [(ev fuel (a.pt []) (cf vals) { st with steps := st.steps + 1 }).1])) (ev fuel (a.pt []) (cf vals) { st with steps := st.steps + 1 }).2 := by
  rw [ku, hlen]
  simp only [KE.pt]
  conv => lhs; unfold ev
  rw [ji he hq]; simp only [if_pos, iR]; rfl
 rw [pI]
 have hs' := hs.step hq
 have hr1 := j0 (fuel := fuel) jU (by omega) vals { st with steps := st.steps + 1 } (fun _ => aW)
 have h1 := fun m => bI pa vals ps { st with steps := st.steps + 1 } nv _ lS (hin.begin m).1 (fun _ => aW) hlen hs'
 have hs2 := hs'.on (a.pt []) (cf vals)
 generalize ev fuel (a.pt []) (cf vals) { st with steps := st.steps + 1 } = r1 at *
 have h2 := fun q cq w2 (bf : du w0 w2 yb vals ps fuel r1.2 cq) (hq : dr w2 r1.1 q) => QK pd q vals ps r1.1 r1.2 cq w2 (ev fuel (d.pt []) (cf (vals ++ [r1.1])) r1.2) (fun bw w' o4 => LW pd (vals ++ [r1.1]) (ps ++ [q]) r1.2 bw w' qX o4 (fun e => by rw [ku, kr, hlen]; exact aW.snoc (hr1.1 e).2) (by simp [hlen]) hs2) bf hq (by omega)
 generalize ev fuel (d.pt []) (cf (vals ++ [r1.1])) r1.2 = R at *
 have cB := eK.on hin.ob.b0
 have x0 := cB.c0
 have x2 := cB.c2
 have WJ := cB.ck 0 pa rfl
 have Nn := cB.hb
 have Yg := cB.hg
 have q0 : ((bs Kw.bb.bytes).toList == []) = false := by rw [aR]; decide
 have q1 : ((bs Kw.bb.bytes).toList == [120]) = false := by rw [aR]; decide
 have q2 : ((bs Kw.bb.bytes).toList == [108, 101, 116]) = true := by rw [aR]; decide
 have y1 : w.cell? ⟨yb, 1, none⟩ = some (.int .i64 fuel) := by rw [aa hin.ob.y]; rfl
 have y2 : w.cell? ⟨yb, 2, none⟩ = some (.int .i64 st.steps) := by rw [aa hin.ob.y]; rfl
 have y4 : w.cell? ⟨yb, 4, none⟩ = some (.bool false) := by rw [aa hin.ob.y]; simp [dn, he]
 have f2 : w.frozen? ⟨yb, 2, none⟩ = false := ag hin.ob.y 2
 have nj := af hin.ob.y
 have q9 : ((st.steps : Int) == (fuel : Int)) = false := by rw [beq_eq_false_iff_ne]; omega
 have yj := hs.s
 have Qx := hs.f
 have HK : Hid _ := eK
 have ym : Hid _ := fun m => (hin.begin m).2
 have H1 : Hid _ := h1
 have H2 : Hid _ := h2
 clear eK cB hx hin aW hs he pI hq lS qX bI LW hs' hs2 hr1 h1 h2 hlen
 go_enter Tryz.func51, Tryz.ntmps51
 go_wp2_with fail
 go_quiet (fail)
 go_wp2_with fail
 refine Calls.mono (H1.out _) ?_
 rintro _ w2 ⟨r, cq, rfl, cO, bf, CS⟩
 have cB := HK.out.on bf.ob.b0
 have z2 := cB.c2
 have zk1 := cB.ck 1 pd rfl
 have zl1 := cB.hb
 have zl2 := cB.hg
 have hc2 := H2.out r cq w2 bf CS
 have cj : Hid _ := (ym.out _).trans cO
 have vo : Hid _ := hc2
 clear cO bf CS cB hc2 HK H1 H2 ym x0 x2 WJ y1 y2 y4 f2
 go_wp2_with fail
 refine Calls.mono vo.out ?_
 rintro _ w3 ⟨r3, AJ, rfl, bM, dV, xg⟩
 have dC : Hid _ := cj.out.trans bM
 have HI3 : Hid _ := dV
 have uw : Hid _ := xg
 clear bM dV xg vo cj
 go_wp2
 go_ret
 exact ⟨r3, AJ, rfl, dC.out, HI3.out, uw.out⟩
theorem SX {w0 : World} (yb fuel : Nat) (vs : List Nat) (a d f : KE) (jU : KT vs a 0) (hvl : vs.length <= 100) (bI : I1 w0 yb fuel a vs) (LW : I1 w0 yb fuel d vs) (WK : I1 w0 yb fuel f vs) : CP w0 yb fuel (.n3 .fH 0 a d f) vs := by
 intro b vals ps st nv w hx hin aW hlen hs he hq
 obtain ⟨c, pa, pd, pf, eK, lS, qX, LX⟩ := QM hx
 have hne : b ≠ yb := by have := hin.ob.hyb; have := eK.hb; omega
 have QG : c ≠ yb := by have := hin.ob.hyb; have := eK.hg; omega
 have pI : ev fuel ((KE.n3 .fH 0 a d f).pt []) (cf vals) st = if (ev fuel (a.pt []) (cf vals) { st with steps := st.steps + 1 }).1.num ≠ 0 then ev fuel (d.pt []) (cf vals) (ev fuel (a.pt []) (cf vals) { st with steps := st.steps + 1 }).2 else ev fuel (f.pt []) (cf vals) (ev fuel (a.pt []) (cf vals) { st with steps := st.steps + 1 }).2 := by
  simp only [KE.pt]
  conv => lhs; unfold ev
  rw [ji he hq]; simp only [reduceCtorEq, if_false, if_true, ml]
 rw [pI]
 have hs' := hs.step hq
 have hr1 := j0 (fuel := fuel) jU hvl vals { st with steps := st.steps + 1 } (fun _ => aW)
 have h1 := fun m => bI pa vals ps { st with steps := st.steps + 1 } nv _ lS (hin.begin m).1 (fun _ => aW) hlen hs'
 have hs2 := hs'.on (a.pt []) (cf vals)
 generalize ev fuel (a.pt []) (cf vals) { st with steps := st.steps + 1 } = r1 at *
 have h2 := fun cq w2 (bf : du w0 w2 yb vals ps fuel r1.2 cq) => LW pd vals ps r1.2 cq w2 qX bf (fun _ => aW) hlen hs2
 have h3 := fun cq w2 (bf : du w0 w2 yb vals ps fuel r1.2 cq) => WK pf vals ps r1.2 cq w2 LX bf (fun _ => aW) hlen hs2
 obtain ⟨k, hk, hk9⟩ := CR hr1
 obtain ⟨R, hR⟩ : ∃ R, R = if r1.1.num ≠ 0 then ev fuel (d.pt []) (cf vals) r1.2 else ev fuel (f.pt []) (cf vals) r1.2 := ⟨_, rfl⟩
 rw [<- hR]
 have HRz : k = 0 -> R = ev fuel (f.pt []) (cf vals) r1.2 := fun h => by rw [hR, hk]; exact if_neg (fun g => g h)
 have HRy : k ≠ 0 -> R = ev fuel (d.pt []) (cf vals) r1.2 := fun h => by rw [hR, hk]; exact if_pos h
 have oV : ∀ (w2 : World) (r : Nat), dr w2 r1.1 r -> r < w2.heap.size /\ w2.cell? ⟨r, 0, none⟩ = some (.int .i64 k) := fun w2 r h => by
  have := h.num; rw [hk] at this; exact this
 have cB := eK.on hin.ob.b0
 have x0 := cB.c0
 have x2 := cB.c2
 have WJ := cB.ck 0 pa rfl
 have Nn := cB.hb
 have Yg := cB.hg
 have q0 : ((bs Kw.fH.bytes).toList == []) = false := by rw [aR]; decide
 have q1 : ((bs Kw.fH.bytes).toList == [120]) = false := by rw [aR]; decide
 have q2 : ((bs Kw.fH.bytes).toList == [108, 101, 116]) = false := by rw [aR]; decide
 have q3 : ((bs Kw.fH.bytes).toList == [105, 102]) = true := by rw [aR]; decide
 have y1 : w.cell? ⟨yb, 1, none⟩ = some (.int .i64 fuel) := by rw [aa hin.ob.y]; rfl
 have y2 : w.cell? ⟨yb, 2, none⟩ = some (.int .i64 st.steps) := by rw [aa hin.ob.y]; rfl
 have y4 : w.cell? ⟨yb, 4, none⟩ = some (.bool false) := by rw [aa hin.ob.y]; simp [dn, he]
 have f2 : w.frozen? ⟨yb, 2, none⟩ = false := ag hin.ob.y 2
 have nj := af hin.ob.y
 have q9 : ((st.steps : Int) == (fuel : Int)) = false := by rw [beq_eq_false_iff_ne]; omega
 have yj := hs.s
 have Qx := hs.f
 have HK : Hid _ := eK
 have ym : Hid _ := fun m => (hin.begin m).2
 have H1 : Hid _ := h1
 have H2 : Hid _ := h2
 have H3 : Hid _ := h3
 have xR : Hid _ := oV
 clear eK cB hx hin aW hs he pI hq lS qX LX bI LW WK hs' hs2 hr1 h1 h2 h3 hk hR hlen oV
 go_enter Tryz.func51, Tryz.ntmps51
 go_wp2_with fail
 go_quiet (fail)
 go_wp2_with fail
 refine Calls.mono (H1.out _) ?_
 rintro _ w2 ⟨r, cq, rfl, cO, bf, CS⟩
 have cB := HK.out.on bf.ob.b0
 have z2 := cB.c2
 have zk1 := cB.ck 1 pd rfl
 have zk2 := cB.ck 2 pf rfl
 have zl1 := cB.hb
 have zl2 := cB.hg
 obtain ⟨zr, zn⟩ := xR.out w2 r CS
 have cj : Hid _ := (ym.out _).trans cO
 have vo : Hid _ := H2.out cq w2 bf
 have Hd : Hid _ := H3.out cq w2 bf
 clear cO bf CS cB HK H1 H2 H3 ym xR x0 x2 WJ y1 y2 y4 f2
 by_cases o9 : k = 0
 ·have qk : ((k : Int) != 0) = false := by subst o9; rfl
  have HR : Hid _ := HRz o9
  clear o9 HRz HRy vo
  go_wp2_with fail
  refine Calls.mono Hd.out ?_
  rintro _ w3 ⟨r3, AJ, rfl, bM, dV, xg⟩
  have dC : Hid _ := cj.out.trans bM
  have HI3 : Hid _ := dV
  have uw : Hid _ := xg
  clear bM dV xg Hd cj
  go_wp2
  go_ret
  rw [HR.out]
  exact ⟨r3, AJ, rfl, dC.out, HI3.out, uw.out⟩
 ·have qk : ((k : Int) != 0) = true := by simp; omega
  have HR : Hid _ := HRy o9
  clear o9 HRz HRy Hd
  go_wp2_with fail
  refine Calls.mono vo.out ?_
  rintro _ w3 ⟨r3, AJ, rfl, bM, dV, xg⟩
  have dC : Hid _ := cj.out.trans bM
  have HI3 : Hid _ := dV
  have uw : Hid _ := xg
  clear bM dV xg vo cj
  go_wp2
  go_ret
  rw [HR.out]
  exact ⟨r3, AJ, rfl, dC.out, HI3.out, uw.out⟩
theorem CT (f : Vl -> cd -> Vl × cd) (v : Vl) (st : cd) : turns f 0 v st = (v, st) := rfl
theorem CU (f : Vl -> cd -> Vl × cd) (k : Nat) (v : Vl) (st : cd) (h : st.e = 0) : turns f (k + 1) v st = turns f k (f v st).1 (f v st).2 := by simp only [turns]; rw [if_neg (by simpa using h)]
theorem EX (f : Vl -> cd -> Vl × cd) (k : Nat) (v : Vl) (st : cd) (h : st.e ≠ 0) : turns f k v st = (v, st) := by
 cases k with
 | zero => rfl
 | succ k => simp only [turns]; rw [if_pos h]
theorem LY {w0 : World} (yb fuel : Nat) (vs : List Nat) (a d f : KE) (t : Nat) (jU : KT vs a 0) (htd : KT vs d t) (htf : KT (vs ++ [t]) f t) (hvl : vs.length < 100) (bI : I1 w0 yb fuel a vs) (LW : I1 w0 yb fuel d vs) (WK : I1 w0 yb fuel f (vs ++ [t])) : CP w0 yb fuel (.n3 .loop vs.length a d f) vs := by
 intro b vals ps st nv w hx hin aW hlen hs he hq
 obtain ⟨c, pa, pd, pf, eK, lS, qX, LX⟩ := QM hx
 have hne : b ≠ yb := by have := hin.ob.hyb; have := eK.hb; omega
 have QG : c ≠ yb := by have := hin.ob.hyb; have := eK.hg; omega
 obtain ⟨F, hF⟩ : ∃ F : Vl -> cd -> Vl × cd, F = fun v st => ev fuel (f.pt []) (cf (vals ++ [v])) st := ⟨_, rfl⟩
 have pI : ev fuel ((KE.n3 .loop vs.length a d f).pt []) (cf vals) st = turns F (ev fuel (a.pt []) (cf vals) { st with steps := st.steps + 1 }).1.num (ev fuel (d.pt []) (cf vals) (ev fuel (a.pt []) (cf vals) { st with steps := st.steps + 1 }).2).1 (ev fuel (d.pt []) (cf vals) (ev fuel (a.pt []) (cf vals) { st with steps := st.steps + 1 }).2).2 := by
  rw [hF]
  simp only [ku, hlen]
  simp only [KE.pt]
  conv => lhs; unfold ev
  rw [ji he hq]; simp only [reduceCtorEq, if_false, if_true, eD]; rfl
 rw [pI]
 have hs' := hs.step hq
 have hr1 := j0 (fuel := fuel) jU (by omega) vals { st with steps := st.steps + 1 } (fun _ => aW)
 have h1 := fun m => bI pa vals ps { st with steps := st.steps + 1 } nv _ lS (hin.begin m).1 (fun _ => aW) hlen hs'
 have hs2 := hs'.on (a.pt []) (cf vals)
 generalize ev fuel (a.pt []) (cf vals) { st with steps := st.steps + 1 } = r1 at *
 have ez := j0 (fuel := fuel) htd (by omega) vals r1.2 (fun _ => aW)
 have h2 := fun cq w2 (bf : du w0 w2 yb vals ps fuel r1.2 cq) => LW pd vals ps r1.2 cq w2 qX bf (fun _ => aW) hlen hs2
 have hs3 := hs2.on (d.pt []) (cf vals)
 generalize ev fuel (d.pt []) (cf vals) r1.2 = r2 at *
 obtain ⟨k, hk, hk9⟩ := CR hr1
 have h3 : ∀ (v : Vl) (q : Nat) (DJ : cd) (cq : Value) (w2 : World), (DJ.e = 0 -> v.has (uU t)) -> rX fuel DJ -> du w0 w2 yb vals ps fuel DJ cq -> dr w2 v q ->
   Calls Tryz.prog 85 #[.pointer (some ⟨yb, 0, none⟩), .pointer (some ⟨q, 0, none⟩), .pointer (some ⟨pf, 0, none⟩)] w2 fun e w' => ∃ r bw, e = .returned (.pointer (some ⟨r, 0, none⟩)) /\ cF w2 w' yb cq bw /\ du w0 w' yb vals ps fuel (F v DJ).2 bw /\ dr w' (F v DJ).1 r := by
  intro v q DJ cq w2 hv D1 bf M6
  rw [hF]
  exact QK pf q vals ps v DJ cq w2 _ (fun bw w' o4 => WK pf (vals ++ [v]) (ps ++ [q]) DJ bw w' LX o4 (fun e => by rw [ku, kr, hlen]; exact aW.snoc (hv e)) (by simp [hlen]) D1) bf M6 (by omega)
 have h4 : ∀ (v : Vl) (DJ : cd), (DJ.e = 0 -> v.has (uU t)) -> rX fuel DJ -> ((F v DJ).2.e = 0 -> (F v DJ).1.has (uU t)) /\ rX fuel (F v DJ).2 := by
  intro v DJ hv D1
  rw [hF]
  exact ⟨fun e => ((j0 (fuel := fuel) htf (by simp; omega) (vals ++ [v]) DJ (fun e => by rw [ku, kr, hlen]; exact aW.snoc (hv e))).1 e).2, D1.on _ _⟩
 have oV : ∀ (w2 : World) (r : Nat), dr w2 r1.1 r -> r < w2.heap.size /\ w2.cell? ⟨r, 0, none⟩ = some (.int .i64 k) := fun w2 r h => by
  have := h.num; rw [hk] at this; exact this
 have hkn : r1.1.num = k := by rw [hk]; rfl
 rw [hkn]
 have cB := eK.on hin.ob.b0
 have x0 := cB.c0
 have x2 := cB.c2
 have WJ := cB.ck 0 pa rfl
 have Nn := cB.hb
 have Yg := cB.hg
 have q0 : ((bs Kw.loop.bytes).toList == []) = false := by rw [aR]; decide
 have q1 : ((bs Kw.loop.bytes).toList == [120]) = false := by rw [aR]; decide
 have q2 : ((bs Kw.loop.bytes).toList == [108, 101, 116]) = false := by rw [aR]; decide
 have q3 : ((bs Kw.loop.bytes).toList == [105, 102]) = false := by rw [aR]; decide
 have q4 : ((bs Kw.loop.bytes).toList == [108, 111, 111, 112]) = true := by rw [aR]; decide
 have y1 : w.cell? ⟨yb, 1, none⟩ = some (.int .i64 fuel) := by rw [aa hin.ob.y]; rfl
 have y2 : w.cell? ⟨yb, 2, none⟩ = some (.int .i64 st.steps) := by rw [aa hin.ob.y]; rfl
 have y4 : w.cell? ⟨yb, 4, none⟩ = some (.bool false) := by rw [aa hin.ob.y]; simp [dn, he]
 have f2 : w.frozen? ⟨yb, 2, none⟩ = false := ag hin.ob.y 2
 have nj := af hin.ob.y
 have q9 : ((st.steps : Int) == (fuel : Int)) = false := by rw [beq_eq_false_iff_ne]; omega
 have yj := hs.s
 have Qx := hs.f
 have NU : Hid (r2.2.e = 0 -> r2.1.has (uU t)) := fun e => (ez.1 e).2
 have JB : Hid _ := hs3
 have HK : Hid _ := eK
 have ym : Hid _ := fun m => (hin.begin m).2
 have H1 : Hid _ := h1
 have H2 : Hid _ := h2
 have H3 : Hid _ := h3
 have H4 : Hid _ := h4
 have xR : Hid _ := oV
 clear eK cB hx hin aW hs he pI hq lS qX LX bI LW WK hs' hs2 hs3 hr1 ez h1 h2 h3 h4 hk hkn hlen oV hF
 go_enter Tryz.func51, Tryz.ntmps51
 go_wp2_with fail
 go_quiet (fail)
 go_wp2_with fail
 refine Calls.mono (H1.out _) ?_
 rintro _ w2 ⟨rn, cq, rfl, cO, bf, CS⟩
 have cB := HK.out.on bf.ob.b0
 have z2 := cB.c2
 have zk1 := cB.ck 1 pd rfl
 have zl1 := cB.hb
 have zl2 := cB.hg
 have cj : Hid _ := (ym.out _).trans cO
 have vo : Hid _ := H2.out cq w2 bf
 have HI2 : Hid _ := bf.ob
 have WA : Hid _ := CS
 clear cO bf CS cB H1 H2 ym x0 x2 WJ y1 y2 y4 f2
 go_wp2_with fail
 refine Calls.mono vo.out ?_
 rintro _ w3 ⟨r3, AJ, rfl, bM, dV, xg⟩
 have aaa : Hid _ := WA.out.fr HI2.out bM
 have dC : Hid _ := cj.out.trans bM
 have HI3 : Hid _ := dV
 have uw : Hid _ := xg
 clear bM dV xg vo cj HI2 WA z2 zk1
 go_wp2_with fail
 go_loopw [9, 10] (fun vv i wr => ∃ (j : Nat) (v : Vl) (r : Nat) (zk : cd) (gy : Value), j <= k /\ i = .int .i64 j /\ vv = .pointer (some ⟨r, 0, none⟩) /\ dr wr v r /\ turns F k r2.1 r2.2 = turns F (k - j) v zk /\ (zk.e = 0 -> v.has (uU t)) /\ rX fuel zk /\ cF w wr yb nv gy /\ du w0 wr yb vals ps fuel zk gy /\ dr wr r1.1 rn) (fun _ i _ => k - (intOf i).toNat)
 case atStart => exact ⟨0, r2.1, r3, r2.2, AJ, by omega, rfl, rfl, uw.out, rfl, NU.out, JB.out, dC.out, HI3.out, aaa.out⟩
 case round =>
  obtain ⟨j, v, r, zk, gy, hj, rfl, rfl, I5, Yh, hv, D1, gN, bQ, LZ⟩ := hrel
  have e4 : wr.cell? ⟨yb, 4, none⟩ = some (.bool (decide (zk.e ≠ 0))) := by rw [aa bQ.ob.y]; rfl
  have SG := af bQ.ob.y
  obtain ⟨zr, zn⟩ := xR.out wr rn LZ
  have cB := HK.out.on bQ.ob.b0
  have u2 := cB.c2
  have uk2 := cB.ck 2 pf rfl
  have WL := cB.hb
  have WM := cB.hg
  have HTU : Hid _ := Yh
  have js : Hid _ := gN
  have HI4 : Hid _ := bQ
  have Yf : Hid _ := I5
  by_cases Ye : j = k
  ·have HE : Hid _ := CT F v zk
   have hjk : ¬ j < k := by omega
   have aab : Hid (turns F k r2.1 r2.2 = turns F 0 v zk) := by
    show _ = _
    rw [HTU.out, Ye, Nat.sub_self]
   subst Ye
   clear Yh gN bQ cB hv D1 LZ I5
   go_wp2
   go_ret
   rw [aab.out, HE.out]
   exact ⟨r, gy, rfl, js.out, HI4.out, Yf.out⟩
  ·have aaU : j < k := by omega
   by_cases Up : zk.e = 0
   ·rw [show decide (zk.e ≠ 0) = false by simp [Up]] at e4
    obtain ⟨i, hi⟩ : ∃ i, k - j = i + 1 := ⟨k - j - 1, by omega⟩
    have h4 := H4.out v zk hv D1
    have HE : Hid (turns F (k - j) v zk = turns F (k - (j + 1)) (F v zk).1 (F v zk).2) := by
     show _ = _
     rw [hi, CU F i v zk Up, show k - (j + 1) = i by omega]
    have H5 : Hid _ := h4
    have HC : Hid _ := H3.out v r zk gy wr hv D1 bQ I5
    have aac : Hid _ := LZ
    clear Yh gN bQ cB hv D1 h4 Up LZ I5 hi
    go_wp2_with fail
    refine Calls.mono HC.out ?_
    rintro _ w5 ⟨r5, Er, rfl, nQ, mw, WN⟩
    have fJ : Hid _ := js.out.trans nQ
    have iJ : Hid _ := mw
    have Lt : Hid _ := WN
    have HN5 : Hid _ := aac.out.fr HI4.out.ob nQ
    clear nQ mw WN HC
    go_wp2
    go_roundw
    case rel => exact ⟨j + 1, (F v zk).1, r5, (F v zk).2, Er, by omega, by go_num, rfl, Lt.out, by rw [HTU.out, HE.out], H5.out.1, H5.out.2, fJ.out, iJ.out, HN5.out⟩
    case measure => simp [intOf]; omega
   ·rw [show decide (zk.e ≠ 0) = true by simp [Up]] at e4
    have HE : Hid _ := EX F (k - j) v zk Up
    clear Yh gN bQ cB hv D1 Up LZ I5
    go_wp2
    go_ret
    rw [HTU.out, HE.out]
    exact ⟨r, gy, rfl, js.out, HI4.out, Yf.out⟩
def CV (w0 : World) (yb fuel : Nat) (k : Kw) (A B : Ty) : Prop :=
 ∀ (b c n : Nat) (ks : List Nat) (vals : List Vl) (ps : List Nat) (st : cd) (nv : Value) (w : World) (x y : Vl) (px py : Nat), CQ w0 b c k n ks -> du w0 w yb vals ps fuel st nv -> rX fuel st -> x.has A -> y.has B -> dr w x px -> dr w y py ->
  Calls Tryz.prog 86 #[.pointer (some ⟨yb, 0, none⟩), .pointer (some ⟨b, 0, none⟩), .pointer (some ⟨px, 0, none⟩), .pointer (some ⟨py, 0, none⟩)] w fun e w' => ∃ r, e = .returned (.pointer (some ⟨r, 0, none⟩)) /\ cF w w' yb nv nv /\ du w0 w' yb vals ps fuel (ct k [x, y] st).2 nv /\ dr w' (ct k [x, y] st).1 r
def L0 (w0 : World) (yb fuel : Nat) (k : Kw) (A : Ty) : Prop :=
 ∀ (b c n : Nat) (ks : List Nat) (vals : List Vl) (ps : List Nat) (st : cd) (nv : Value) (w : World) (x : Vl) (px : Nat), CQ w0 b c k n ks -> du w0 w yb vals ps fuel st nv -> x.has A -> dr w x px ->
  Calls Tryz.prog 86 #[.pointer (some ⟨yb, 0, none⟩), .pointer (some ⟨b, 0, none⟩), .pointer (some ⟨px, 0, none⟩), .pointer none] w fun e w' => ∃ r, e = .returned (.pointer (some ⟨r, 0, none⟩)) /\ cF w w' yb nv nv /\ du w0 w' yb vals ps fuel (ct k [x] st).2 nv /\ dr w' (ct k [x] st).1 r
theorem CW {W w : World} {b : Nat} (h : Below b W w) : Below b W w.drew := h.trans ⟨rfl, rfl, rfl, Nat.le_refl _, fun _ _ => rfl⟩
theorem EY {w0 : World} (yb fuel : Nat) (A B : Ty) : CV w0 yb fuel .pair A B := by
 intro b c n ks vals ps st nv w x y px py eK hin hs _ _ EZ L3
 have hne : b ≠ yb := by have := hin.ob.hyb; have := eK.hb; omega
 have cB := eK.on hin.ob.b0
 have x0 := cB.c0
 have Nn := cB.hb
 have y3 : w.cell? ⟨yb, 3, none⟩ = some (.int .i64 st.cells) := by rw [aa hin.ob.y]; rfl
 have f3 : w.frozen? ⟨yb, 3, none⟩ = false := ag hin.ob.y 3
 have nj := af hin.ob.y
 have q0 : ((bs Kw.pair.bytes).toList == [112, 97, 105, 114]) = true := by rw [aR]; decide
 have hcs := hs.c
 have yj := hs.s
 have Qx := hs.f
 have hset := hin.set 3 (.int .i64 ((st.cells : Int) + 1)) (st' := { st with cells := st.cells + 1 }) (by simp [dn])
 have hfr := cF.wR w yb nv 3 (.int .i64 ((st.cells : Int) + 1))
 have SY := EZ.fr hin.ob hfr
 have SZ := L3.fr hin.ob hfr
 have hsz : (w.setCell ⟨yb, 3, none⟩ (.int .i64 ((st.cells : Int) + 1))).heap.size = w.heap.size := by simp [World.setCell]
 have hm : ct .pair [x, y] st = (.p x y, { st with cells := st.cells + 1 }) := rfl
 rw [hm]
 obtain ⟨W, hW⟩ : ∃ W, W = w.setCell ⟨yb, 3, none⟩ (.int .i64 ((st.cells : Int) + 1)) := ⟨_, rfl⟩
 rw [<- hW] at hset hfr SY SZ hsz
 have Aa : Hid _ := hset
 have pV : Hid _ := hfr
 have HX : Hid _ := SY
 have HY : Hid _ := SZ
 have Rg : Hid _ := hsz
 have HW : Hid _ := hW
 clear eK cB hin hs EZ L3 hset hfr SY SZ hsz hm hW
 go_enter Tryz.func86, Tryz.ntmps86
 go_wp2
 go_ret
 rw [<- HW.out]
 have pO := aY (Below.refl _ W) (.cells (Nk 0 (.pointer (some ⟨px, 0, none⟩)) (.pointer (some ⟨py, 0, none⟩))) 141 (0, 0))
 refine ⟨w.heap.size, rfl, pV.out.trans (cF.below pO _ _), Aa.out.grow pO, px, py, ?_, HX.out.below pO, HY.out.below pO⟩
 rw [<- Rg.out]; exact aj _ _
theorem I6 {w0 : World} (yb fuel : Nat) (r0 : Nat) (A B : Ty) : L0 w0 yb fuel .fst (.p r0 A B) := by
 intro b c n ks vals ps st nv w x px eK hin hx EZ
 obtain ⟨u, v, rfl⟩ : ∃ u v, x = .p u v := by
  cases x with
  | n k => exact hx.elim
  | p u v => exact ⟨u, v, rfl⟩
 obtain ⟨pu, pv, h1, h2, h3⟩ := EZ
 have cB := eK.on hin.ob.b0
 have x0 := cB.c0
 have Nn := cB.hb
 have p1 : w.cell? ⟨px, 1, none⟩ = some (.pointer (some ⟨pu, 0, none⟩)) := by rw [aa h1]; rfl
 have pl := af h1
 have q0 : ((bs Kw.fst.bytes).toList == [112, 97, 105, 114]) = false := by rw [aR]; decide
 have q1 : ((bs Kw.fst.bytes).toList == [102, 115, 116]) = true := by rw [aR]; decide
 have lR : Hid _ := hin
 have HU : Hid _ := h2
 have hm : ct .fst [.p u v] st = (u, st) := rfl
 rw [hm]
 clear eK cB hin hx h1 h2 h3 hm
 go_enter Tryz.func86, Tryz.ntmps86
 go_wp2
 go_ret
 exact ⟨pu, rfl, cF.refl _ _ _, lR.out, HU.out⟩
theorem I7 {w0 : World} (yb fuel : Nat) (r0 : Nat) (A B : Ty) : L0 w0 yb fuel .snd (.p r0 A B) := by
 intro b c n ks vals ps st nv w x px eK hin hx EZ
 obtain ⟨u, v, rfl⟩ : ∃ u v, x = .p u v := by
  cases x with
  | n k => exact hx.elim
  | p u v => exact ⟨u, v, rfl⟩
 obtain ⟨pu, pv, h1, h2, h3⟩ := EZ
 have cB := eK.on hin.ob.b0
 have x0 := cB.c0
 have Nn := cB.hb
 have p2 : w.cell? ⟨px, 2, none⟩ = some (.pointer (some ⟨pv, 0, none⟩)) := by rw [aa h1]; rfl
 have pl := af h1
 have q0 : ((bs Kw.snd.bytes).toList == [112, 97, 105, 114]) = false := by rw [aR]; decide
 have q1 : ((bs Kw.snd.bytes).toList == [102, 115, 116]) = false := by rw [aR]; decide
 have q2 : ((bs Kw.snd.bytes).toList == [115, 110, 100]) = true := by rw [aR]; decide
 have lR : Hid _ := hin
 have HU : Hid _ := h3
 have hm : ct .snd [.p u v] st = (v, st) := rfl
 rw [hm]
 clear eK cB hin hx h1 h2 h3 hm
 go_enter Tryz.func86, Tryz.ntmps86
 go_wp2
 go_ret
 exact ⟨pv, rfl, cF.refl _ _ _, lR.out, HU.out⟩
theorem I8 {w0 : World} (yb fuel : Nat) : CV w0 yb fuel .add .n .n := by
 intro b c n ks vals ps st nv w x y px py eK hin _ hx hy EZ L3
 obtain ⟨i, rfl, hi⟩ := mM hx
 obtain ⟨j, rfl, hj⟩ := mM hy
 obtain ⟨pl, p0⟩ := EZ.num
 obtain ⟨pl', WO⟩ := L3.num
 simp only [Vl.num] at p0 WO
 have cB := eK.on hin.ob.b0
 have x0 := cB.c0
 have Nn := cB.hb
 have q0 : ((bs Kw.add.bytes).toList == [112, 97, 105, 114]) = false := by rw [aR]; decide
 have q1 : ((bs Kw.add.bytes).toList == [102, 115, 116]) = false := by rw [aR]; decide
 have q2 : ((bs Kw.add.bytes).toList == [115, 110, 100]) = false := by rw [aR]; decide
 have q3 : ((bs Kw.add.bytes).toList == [97, 100, 100]) = true := by rw [aR]; decide
 have em : ((i : Int) + (j : Int)) % 10000 = (((i + j) % 10000 : Nat) : Int) := by omega
 have hm : ct .add [.n i, .n j] st = (.n ((i + j) % 10000), st) := rfl
 rw [hm]
 have lR : Hid _ := hin
 clear eK cB hin hx hy EZ L3 hm
 generalize (i + j) % 10000 = s at *
 go_enter Tryz.func86, Tryz.ntmps86
 go_wp2
 go_region
 all_goals
  go_wp2
  go_ret
  have pO := CW (aY (Below.refl _ w) (.cells (Nk s (.pointer none) (.pointer none)) 141 (0, 0)))
  exact ⟨w.heap.size, rfl, cF.below pO _ _, lR.out.grow pO, aj w _⟩
theorem I9 {w0 : World} (yb fuel : Nat) : CV w0 yb fuel .sub .n .n := by
 intro b c n ks vals ps st nv w x y px py eK hin _ hx hy EZ L3
 obtain ⟨i, rfl, hi⟩ := mM hx
 obtain ⟨j, rfl, hj⟩ := mM hy
 obtain ⟨pl, p0⟩ := EZ.num
 obtain ⟨pl', WO⟩ := L3.num
 simp only [Vl.num] at p0 WO
 have cB := eK.on hin.ob.b0
 have x0 := cB.c0
 have Nn := cB.hb
 have q0 : ((bs Kw.sub.bytes).toList == [112, 97, 105, 114]) = false := by rw [aR]; decide
 have q1 : ((bs Kw.sub.bytes).toList == [102, 115, 116]) = false := by rw [aR]; decide
 have q2 : ((bs Kw.sub.bytes).toList == [115, 110, 100]) = false := by rw [aR]; decide
 have q3 : ((bs Kw.sub.bytes).toList == [97, 100, 100]) = false := by rw [aR]; decide
 have q4 : ((bs Kw.sub.bytes).toList == [115, 117, 98]) = true := by rw [aR]; decide
 have em : ((i : Int) + 10000 - (j : Int)) % 10000 = (((i + 10000 - j) % 10000 : Nat) : Int) := by omega
 have hm : ct .sub [.n i, .n j] st = (.n ((i + 10000 - j) % 10000), st) := rfl
 rw [hm]
 have lR : Hid _ := hin
 clear eK cB hin hx hy EZ L3 hm
 generalize (i + 10000 - j) % 10000 = s at *
 go_enter Tryz.func86, Tryz.ntmps86
 go_wp2
 go_region
 all_goals
  go_wp2
  go_ret
  have pO := CW (aY (Below.refl _ w) (.cells (Nk s (.pointer none) (.pointer none)) 141 (0, 0)))
  exact ⟨w.heap.size, rfl, cF.below pO _ _, lR.out.grow pO, aj w _⟩
theorem E2 {w0 : World} (yb fuel : Nat) : CV w0 yb fuel .less .n .n := by
 intro b c n ks vals ps st nv w x y px py eK hin _ hx hy EZ L3
 obtain ⟨i, rfl, hi⟩ := mM hx
 obtain ⟨j, rfl, hj⟩ := mM hy
 obtain ⟨pl, p0⟩ := EZ.num
 obtain ⟨pl', WO⟩ := L3.num
 simp only [Vl.num] at p0 WO
 have cB := eK.on hin.ob.b0
 have x0 := cB.c0
 have Nn := cB.hb
 have q0 : ((bs Kw.less.bytes).toList == [112, 97, 105, 114]) = false := by rw [aR]; decide
 have q1 : ((bs Kw.less.bytes).toList == [102, 115, 116]) = false := by rw [aR]; decide
 have q2 : ((bs Kw.less.bytes).toList == [115, 110, 100]) = false := by rw [aR]; decide
 have q3 : ((bs Kw.less.bytes).toList == [97, 100, 100]) = false := by rw [aR]; decide
 have q4 : ((bs Kw.less.bytes).toList == [115, 117, 98]) = false := by rw [aR]; decide
 have hm : ct .less [.n i, .n j] st = (.n (if i < j then 1 else 0), st) := rfl
 rw [hm]
 have lR : Hid _ := hin
 clear eK cB hin hx hy EZ L3 hm
 by_cases hij : i < j
 ·rw [if_pos hij]
  go_enter Tryz.func86, Tryz.ntmps86
  go_wp2
  go_quiet (fail)
  go_wp2
  go_ret
  have pO := aY (cM w nq) (.cells (Nk 1 (.pointer none) (.pointer none)) 141 (0, 0))
  exact ⟨w.heap.size, rfl, cF.below pO _ _, lR.out.grow pO, aj (w.drewN nq) _⟩
 ·rw [if_neg hij]
  go_enter Tryz.func86, Tryz.ntmps86
  go_wp2
  go_quiet (fail)
  go_wp2
  go_ret
  have pO := aY (cM w nq) (.cells (Nk 0 (.pointer none) (.pointer none)) 141 (0, 0))
  exact ⟨w.heap.size, rfl, cF.below pO _ _, lR.out.grow pO, aj (w.drewN nq) _⟩
end Go.Proofs.YtpicaknklgccoaaGreatDoor
