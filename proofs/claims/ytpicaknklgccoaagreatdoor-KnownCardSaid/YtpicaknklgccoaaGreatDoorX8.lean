import Derived.Test.YtpicaknklgccoaaGreatDoorX7
import Derived.BigRegion
import Derived.Deep.RegionHeld3
import Derived.Test.YtpicaknklgccoaaGreatDoorX1
import Derived.Test.YtpicaknklgccoaaGreatDoorX5
namespace Go.Proofs.YtpicaknklgccoaaGreatDoor
open Go.RowKit
open Go.Lib (decDigits)
def Made2 (w0 : World) (yb fuel : Nat) (k : Kw) (A B : Ty) : Prop :=
 ∀ (b c n : Nat) (ks : List Nat) (vals : List Vl) (ps : List Nat) (st : ESt) (nv : Value) (w : World) (x y : Vl) (px py : Nat), KAtZ w0 b c k n ks → WkIn w0 w yb vals ps fuel st nv → SOkZ fuel st → x.has A → y.has B → KVal w x px → KVal w y py →
  Calls Tryz.prog 86 #[.pointer (some ⟨yb, 0, none⟩), .pointer (some ⟨b, 0, none⟩), .pointer (some ⟨px, 0, none⟩), .pointer (some ⟨py, 0, none⟩)] w fun e w' => ∃ r, e = .returned (.pointer (some ⟨r, 0, none⟩)) ∧ FrO w w' yb nv nv ∧ WkIn w0 w' yb vals ps fuel (madeV k [x, y] st).2 nv ∧ KVal w' (madeV k [x, y] st).1 r
def Made1 (w0 : World) (yb fuel : Nat) (k : Kw) (A : Ty) : Prop :=
 ∀ (b c n : Nat) (ks : List Nat) (vals : List Vl) (ps : List Nat) (st : ESt) (nv : Value) (w : World) (x : Vl) (px : Nat), KAtZ w0 b c k n ks → WkIn w0 w yb vals ps fuel st nv → x.has A → KVal w x px →
  Calls Tryz.prog 86 #[.pointer (some ⟨yb, 0, none⟩), .pointer (some ⟨b, 0, none⟩), .pointer (some ⟨px, 0, none⟩), .pointer none] w fun e w' => ∃ r, e = .returned (.pointer (some ⟨r, 0, none⟩)) ∧ FrO w w' yb nv nv ∧ WkIn w0 w' yb vals ps fuel (madeV k [x] st).2 nv ∧ KVal w' (madeV k [x] st).1 r
theorem below_dZ {W w : World} {b : Nat} (h : Below b W w) : Below b W w.drew := h.trans ⟨rfl, rfl, rfl, Nat.le_refl _, fun _ _ => rfl⟩
set_option maxRecDepth 100000 in
set_option maxHeartbeats 1000000 in
theorem madeZ_pair {w0 : World} (yb fuel : Nat) (A B : Ty) : Made2 w0 yb fuel .pair A B := by
 intro b c n ks vals ps st nv w x y px py hka hin hs _ _ hkx hky
 have hne : b ≠ yb := by have := hin.ob.hyb; have := hka.hb; omega
 have hkw := hka.on hin.ob.b0
 have x0 := hkw.c0
 have xl1 := hkw.hb
 have y3 : w.cell? ⟨yb, 3, none⟩ = some (.int .i64 st.cells) := by rw [blk_cell hin.ob.y]; rfl
 have f3 : w.frozen? ⟨yb, 3, none⟩ = false := blk_free hin.ob.y 3
 have hyl := blk_lt hin.ob.y
 have q0 : ((bs Kw.pair.bytes).toList == [112, 97, 105, 114]) = true := by rw [bs_beq0]; decide
 have hcs := hs.c
 have hss := hs.s
 have hsf := hs.f
 have hset := hin.set 3 (.int .i64 ((st.cells : Int) + 1)) (st' := { st with cells := st.cells + 1 }) (by simp [wkCells])
 have hfr := FrO.set1 w yb nv 3 (.int .i64 ((st.cells : Int) + 1))
 have hkx2 := hkx.fr hin.ob hfr
 have hky2 := hky.fr hin.ob hfr
 have hsz : (w.setCell ⟨yb, 3, none⟩ (.int .i64 ((st.cells : Int) + 1))).heap.size = w.heap.size := by simp [World.setCell]
 have hm : madeV .pair [x, y] st = (.p x y, { st with cells := st.cells + 1 }) := rfl
 rw [hm]
 obtain ⟨W, hW⟩ : ∃ W, W = w.setCell ⟨yb, 3, none⟩ (.int .i64 ((st.cells : Int) + 1)) := ⟨_, rfl⟩
 rw [← hW] at hset hfr hkx2 hky2 hsz
 have HSET : Hid _ := hset
 have HFR : Hid _ := hfr
 have HX : Hid _ := hkx2
 have HY : Hid _ := hky2
 have HSZ : Hid _ := hsz
 have HW : Hid _ := hW
 clear hka hkw hin hs hkx hky hset hfr hkx2 hky2 hsz hm hW
 go_enter Tryz.func86, Tryz.ntmps86
 go_wp2
 go_ret
 rw [← HW.out]
 have hbn := below_alZ (Below.refl _ W) (.cells (kvV 0 (.pointer (some ⟨px, 0, none⟩)) (.pointer (some ⟨py, 0, none⟩))) 141 (0, 0))
 refine ⟨w.heap.size, rfl, HFR.out.trans (FrO.below hbn _ _), HSET.out.grow hbn, px, py, ?_, HX.out.below hbn, HY.out.below hbn⟩
 rw [← HSZ.out]; exact blk_new _ _
set_option maxRecDepth 100000 in
set_option maxHeartbeats 1000000 in
theorem madeZ_fst {w0 : World} (yb fuel : Nat) (r0 : Nat) (A B : Ty) : Made1 w0 yb fuel .fst (.p r0 A B) := by
 intro b c n ks vals ps st nv w x px hka hin hx hkx
 obtain ⟨u, v, rfl⟩ : ∃ u v, x = .p u v := by
  cases x with
  | n k => exact hx.elim
  | p u v => exact ⟨u, v, rfl⟩
 obtain ⟨pu, pv, h1, h2, h3⟩ := hkx
 have hkw := hka.on hin.ob.b0
 have x0 := hkw.c0
 have xl1 := hkw.hb
 have p1 : w.cell? ⟨px, 1, none⟩ = some (.pointer (some ⟨pu, 0, none⟩)) := by rw [blk_cell h1]; rfl
 have pl := blk_lt h1
 have q0 : ((bs Kw.fst.bytes).toList == [112, 97, 105, 114]) = false := by rw [bs_beq0]; decide
 have q1 : ((bs Kw.fst.bytes).toList == [102, 115, 116]) = true := by rw [bs_beq0]; decide
 have HIN : Hid _ := hin
 have HU : Hid _ := h2
 have hm : madeV .fst [.p u v] st = (u, st) := rfl
 rw [hm]
 clear hka hkw hin hx h1 h2 h3 hm
 go_enter Tryz.func86, Tryz.ntmps86
 go_wp2
 go_ret
 exact ⟨pu, rfl, FrO.refl _ _ _, HIN.out, HU.out⟩
set_option maxRecDepth 100000 in
set_option maxHeartbeats 1000000 in
theorem madeZ_snd {w0 : World} (yb fuel : Nat) (r0 : Nat) (A B : Ty) : Made1 w0 yb fuel .snd (.p r0 A B) := by
 intro b c n ks vals ps st nv w x px hka hin hx hkx
 obtain ⟨u, v, rfl⟩ : ∃ u v, x = .p u v := by
  cases x with
  | n k => exact hx.elim
  | p u v => exact ⟨u, v, rfl⟩
 obtain ⟨pu, pv, h1, h2, h3⟩ := hkx
 have hkw := hka.on hin.ob.b0
 have x0 := hkw.c0
 have xl1 := hkw.hb
 have p2 : w.cell? ⟨px, 2, none⟩ = some (.pointer (some ⟨pv, 0, none⟩)) := by rw [blk_cell h1]; rfl
 have pl := blk_lt h1
 have q0 : ((bs Kw.snd.bytes).toList == [112, 97, 105, 114]) = false := by rw [bs_beq0]; decide
 have q1 : ((bs Kw.snd.bytes).toList == [102, 115, 116]) = false := by rw [bs_beq0]; decide
 have q2 : ((bs Kw.snd.bytes).toList == [115, 110, 100]) = true := by rw [bs_beq0]; decide
 have HIN : Hid _ := hin
 have HU : Hid _ := h3
 have hm : madeV .snd [.p u v] st = (v, st) := rfl
 rw [hm]
 clear hka hkw hin hx h1 h2 h3 hm
 go_enter Tryz.func86, Tryz.ntmps86
 go_wp2
 go_ret
 exact ⟨pv, rfl, FrO.refl _ _ _, HIN.out, HU.out⟩
set_option maxRecDepth 100000 in
set_option maxHeartbeats 1000000 in
theorem madeZ_add {w0 : World} (yb fuel : Nat) : Made2 w0 yb fuel .add .n .n := by
 intro b c n ks vals ps st nv w x y px py hka hin _ hx hy hkx hky
 obtain ⟨i, rfl, hi⟩ := has_num hx
 obtain ⟨j, rfl, hj⟩ := has_num hy
 obtain ⟨pl, p0⟩ := hkx.num
 obtain ⟨pl', p0'⟩ := hky.num
 simp only [Vl.num] at p0 p0'
 have hkw := hka.on hin.ob.b0
 have x0 := hkw.c0
 have xl1 := hkw.hb
 have q0 : ((bs Kw.add.bytes).toList == [112, 97, 105, 114]) = false := by rw [bs_beq0]; decide
 have q1 : ((bs Kw.add.bytes).toList == [102, 115, 116]) = false := by rw [bs_beq0]; decide
 have q2 : ((bs Kw.add.bytes).toList == [115, 110, 100]) = false := by rw [bs_beq0]; decide
 have q3 : ((bs Kw.add.bytes).toList == [97, 100, 100]) = true := by rw [bs_beq0]; decide
 have em : ((i : Int) + (j : Int)) % 10000 = (((i + j) % 10000 : Nat) : Int) := by omega
 have hm : madeV .add [.n i, .n j] st = (.n ((i + j) % 10000), st) := rfl
 rw [hm]
 have HIN : Hid _ := hin
 clear hka hkw hin hx hy hkx hky hm
 generalize (i + j) % 10000 = s at *
 go_enter Tryz.func86, Tryz.ntmps86
 go_wp2
 go_region
 all_goals
  go_wp2
  go_ret
  have hbn := below_dZ (below_alZ (Below.refl _ w) (.cells (kvV s (.pointer none) (.pointer none)) 141 (0, 0)))
  exact ⟨w.heap.size, rfl, FrO.below hbn _ _, HIN.out.grow hbn, blk_new w _⟩
set_option maxRecDepth 100000 in
set_option maxHeartbeats 1000000 in
theorem madeZ_sub {w0 : World} (yb fuel : Nat) : Made2 w0 yb fuel .sub .n .n := by
 intro b c n ks vals ps st nv w x y px py hka hin _ hx hy hkx hky
 obtain ⟨i, rfl, hi⟩ := has_num hx
 obtain ⟨j, rfl, hj⟩ := has_num hy
 obtain ⟨pl, p0⟩ := hkx.num
 obtain ⟨pl', p0'⟩ := hky.num
 simp only [Vl.num] at p0 p0'
 have hkw := hka.on hin.ob.b0
 have x0 := hkw.c0
 have xl1 := hkw.hb
 have q0 : ((bs Kw.sub.bytes).toList == [112, 97, 105, 114]) = false := by rw [bs_beq0]; decide
 have q1 : ((bs Kw.sub.bytes).toList == [102, 115, 116]) = false := by rw [bs_beq0]; decide
 have q2 : ((bs Kw.sub.bytes).toList == [115, 110, 100]) = false := by rw [bs_beq0]; decide
 have q3 : ((bs Kw.sub.bytes).toList == [97, 100, 100]) = false := by rw [bs_beq0]; decide
 have q4 : ((bs Kw.sub.bytes).toList == [115, 117, 98]) = true := by rw [bs_beq0]; decide
 have em : ((i : Int) + 10000 - (j : Int)) % 10000 = (((i + 10000 - j) % 10000 : Nat) : Int) := by omega
 have hm : madeV .sub [.n i, .n j] st = (.n ((i + 10000 - j) % 10000), st) := rfl
 rw [hm]
 have HIN : Hid _ := hin
 clear hka hkw hin hx hy hkx hky hm
 generalize (i + 10000 - j) % 10000 = s at *
 go_enter Tryz.func86, Tryz.ntmps86
 go_wp2
 go_region
 all_goals
  go_wp2
  go_ret
  have hbn := below_dZ (below_alZ (Below.refl _ w) (.cells (kvV s (.pointer none) (.pointer none)) 141 (0, 0)))
  exact ⟨w.heap.size, rfl, FrO.below hbn _ _, HIN.out.grow hbn, blk_new w _⟩
set_option maxRecDepth 100000 in
set_option maxHeartbeats 1000000 in
theorem madeZ_less {w0 : World} (yb fuel : Nat) : Made2 w0 yb fuel .less .n .n := by
 intro b c n ks vals ps st nv w x y px py hka hin _ hx hy hkx hky
 obtain ⟨i, rfl, hi⟩ := has_num hx
 obtain ⟨j, rfl, hj⟩ := has_num hy
 obtain ⟨pl, p0⟩ := hkx.num
 obtain ⟨pl', p0'⟩ := hky.num
 simp only [Vl.num] at p0 p0'
 have hkw := hka.on hin.ob.b0
 have x0 := hkw.c0
 have xl1 := hkw.hb
 have q0 : ((bs Kw.less.bytes).toList == [112, 97, 105, 114]) = false := by rw [bs_beq0]; decide
 have q1 : ((bs Kw.less.bytes).toList == [102, 115, 116]) = false := by rw [bs_beq0]; decide
 have q2 : ((bs Kw.less.bytes).toList == [115, 110, 100]) = false := by rw [bs_beq0]; decide
 have q3 : ((bs Kw.less.bytes).toList == [97, 100, 100]) = false := by rw [bs_beq0]; decide
 have q4 : ((bs Kw.less.bytes).toList == [115, 117, 98]) = false := by rw [bs_beq0]; decide
 have hm : madeV .less [.n i, .n j] st = (.n (if i < j then 1 else 0), st) := rfl
 rw [hm]
 have HIN : Hid _ := hin
 clear hka hkw hin hx hy hkx hky hm
 by_cases hij : i < j
 ·rw [if_pos hij]
  go_enter Tryz.func86, Tryz.ntmps86
  go_wp2
  go_quiet (fail)
  go_wp2
  go_ret
  have hbn := below_alZ (below_drewO w nq) (.cells (kvV 1 (.pointer none) (.pointer none)) 141 (0, 0))
  exact ⟨w.heap.size, rfl, FrO.below hbn _ _, HIN.out.grow hbn, blk_new (w.drewN nq) _⟩
 ·rw [if_neg hij]
  go_enter Tryz.func86, Tryz.ntmps86
  go_wp2
  go_quiet (fail)
  go_wp2
  go_ret
  have hbn := below_alZ (below_drewO w nq) (.cells (kvV 0 (.pointer none) (.pointer none)) 141 (0, 0))
  exact ⟨w.heap.size, rfl, FrO.below hbn _ _, HIN.out.grow hbn, blk_new (w.drewN nq) _⟩
theorem FrO.setNew {w w' : World} {yb q o : Nat} {x nv nv' : Value} (h : FrO w w' yb nv nv') (hq : w.heap.size ≤ q) : FrO w (w'.setCell ⟨q, o, none⟩ x) yb nv nv' :=
 ⟨by have := h.size; simpa [World.setCell] using this, fun k hk hy hn => by rw [blk_other _ _ (by simp only; omega)]; exact h.blk k hk hy hn, h.n⟩
theorem KVal.setElse {w : World} {q o : Nat} {x : Value} {arr : Array Value} (hq : w.heap[q]? = some (.cells arr 142 (0, 0))) {v : Vl} {p : Nat} (h : KVal w v p) : KVal (w.setCell ⟨q, o, none⟩ x) v p :=
 h.keep (fun k arr' hk => by
  rw [blk_other _ _ (by
   simp only
   rintro rfl
   rw [hq] at hk
   simp only [Option.some.injEq, Obj.cells.injEq] at hk
   exact absurd hk.2.1 (by decide))]
  exact hk)
theorem WkIn.setElse {w0 w : World} {yb : Nat} {vals : List Vl} {ps : List Nat} {fuel : Nat} {st : ESt} {nv : Value} {q o : Nat} {x : Value} {arr : Array Value} (h : WkIn w0 w yb vals ps fuel st nv) (hq : w.heap[q]? = some (.cells arr 142 (0, 0))) (h0 : w0.heap.size ≤ q) : WkIn w0 (w.setCell ⟨q, o, none⟩ x) yb vals ps fuel st nv := by
 have hne : ∀ (k : Nat) (arr' : Array Value) (U : TypeId) (fz : Nat × Nat), U ≠ 142 → w.heap[k]? = some (.cells arr' U fz) → (w.setCell ⟨q, o, none⟩ x).heap[k]? = w.heap[k]? := by
  intro k arr' U fz hU hk
  refine blk_other _ _ ?_
  simp only
  rintro rfl
  rw [hq] at hk
  simp only [Option.some.injEq, Obj.cells.injEq] at hk
  exact hU hk.2.1.symm
 refine ⟨⟨h.ob.b0.setCell (p := ⟨q, o, none⟩) h0 _, h.ob.hyb, ?_, owns_blk h.ob.n (fun k hk => ?_), h.ob.ny⟩, h.len, fun i v p h1 h2 => (h.v i v p h1 h2).setElse hq⟩
 ·rw [hne yb _ _ _ (by decide) h.ob.y]; exact h.ob.y
 ·rcases h.ob.n.2 with ⟨hv, _⟩ | ⟨g, cap, cur, hv, _, hg, _⟩
  ·rw [hv] at hk; cases hk
  ·rw [hv] at hk
   simp only [Value.ownBlock, Option.some.injEq] at hk
   subst hk
   exact hne _ _ _ _ (by decide) hg
def two2 (a b : Value) : Obj := .cells #[a, b] 142 (0, 0)
set_option maxRecDepth 100000 in
set_option maxHeartbeats 4000000 in
theorem kgo_two {w0 : World} (yb fuel : Nat) (vs : List Nat) (k : Kw) (n : Nat) (a d : KE) (ta td : Nat) (hk1 : k ≠ .let_) (hk2 : k ≠ .if_) (hk3 : k ≠ .loop) (hta : KT vs a ta) (htd : KT vs d td) (hvl : vs.length ≤ 100) (iha : KGo w0 yb fuel a vs) (ihd : KGo w0 yb fuel d vs) (hmd : Made2 w0 yb fuel k (tyZ ta) (tyZ td)) : KGoN w0 yb fuel (.n2 k n a d) vs := by
 intro b vals ps st nv w hx hin henv hlen hs he hq
 obtain ⟨c, pa, pd, hka, hT1, hT2⟩ := katz2 hx
 have hne : b ≠ yb := by have := hin.ob.hyb; have := hka.hb; omega
 have hgy : c ≠ yb := by have := hin.ob.hyb; have := hka.hg; omega
 have hev : ev fuel ((KE.n2 k n a d).pt []) (envV vals) st = partsV fuel k [a.pt [], d.pt []] (envV vals) { st with steps := st.steps + 1 } := by
  simp only [KE.pt]
  rw [ev_parts fuel _ k _ _ _ (envV vals) st hk1 hk2 hk3, begun_goZ he hq]
 rw [hev, partsV2]
 have hs' := hs.step hq
 have hr1 := kev_res (fuel := fuel) hta hvl vals { st with steps := st.steps + 1 } (fun _ => henv)
 have h1 := fun nv2 w2 (hin2 : WkIn w0 w2 yb vals ps fuel { st with steps := st.steps + 1 } nv2) => iha pa vals ps { st with steps := st.steps + 1 } nv2 w2 hT1 hin2 (fun _ => henv) hlen hs'
 have hs2 := hs'.on (a.pt []) (envV vals)
 generalize ev fuel (a.pt []) (envV vals) { st with steps := st.steps + 1 } = r1 at *
 have hr2 := kev_res (fuel := fuel) htd hvl vals r1.2 (fun _ => henv)
 have h2 := fun nv2 w2 (hin2 : WkIn w0 w2 yb vals ps fuel r1.2 nv2) => ihd pd vals ps r1.2 nv2 w2 hT2 hin2 (fun _ => henv) hlen hs2
 have hs3 := hs2.on (d.pt []) (envV vals)
 generalize ev fuel (d.pt []) (envV vals) r1.2 = r2 at *
 obtain ⟨R, hR⟩ : ∃ R, R = if r2.2.e ≠ 0 then (Vl.n 0, r2.2) else madeV k [r1.1, r2.1] r2.2 := ⟨_, rfl⟩
 rw [← hR]
 have HRN : Hid (r2.2.e = 0 → R = madeV k [r1.1, r2.1] r2.2) := fun h => by rw [hR, if_neg (fun g => g h)]
 have HRE : Hid (r2.2.e ≠ 0 → R = (Vl.n 0, r2.2)) := fun h => by rw [hR, if_pos h]
 have hm : ∀ (nv2 : Value) (w2 : World) (p1 p2 : Nat), r2.2.e = 0 → WkIn w0 w2 yb vals ps fuel r2.2 nv2 → KVal w2 r1.1 p1 → KVal w2 r2.1 p2 →
   Calls Tryz.prog 86 #[.pointer (some ⟨yb, 0, none⟩), .pointer (some ⟨b, 0, none⟩), .pointer (some ⟨p1, 0, none⟩), .pointer (some ⟨p2, 0, none⟩)] w2 fun e w' => ∃ r, e = .returned (.pointer (some ⟨r, 0, none⟩)) ∧ FrO w2 w' yb nv2 nv2 ∧ WkIn w0 w' yb vals ps fuel (madeV k [r1.1, r2.1] r2.2).2 nv2 ∧ KVal w' (madeV k [r1.1, r2.1] r2.2).1 r := by
  intro nv2 w2 p1 p2 e hin2 hv1 hv2
  have a2 := hr2.1 e
  exact hmd b c n [pa, pd] vals ps r2.2 nv2 w2 r1.1 r2.1 p1 p2 hka hin2 hs3 (hr1.1 a2.1).2 a2.2 hv1 hv2
 have hkw := hka.on hin.ob.b0
 have x0 := hkw.c0
 have xl1 := hkw.hb
 have xl2 := hkw.hg
 have q0 : ((bs k.bytes).toList == []) = false := by rw [bs_beq0]; cases k <;> decide
 have q1 : ((bs k.bytes).toList == [120]) = false := by rw [bs_beq0]; cases k <;> decide
 have q2 : ((bs k.bytes).toList == [108, 101, 116]) = false := by rw [bs_beq0]; cases k <;> first | decide | exact absurd rfl hk1
 have q3 : ((bs k.bytes).toList == [105, 102]) = false := by rw [bs_beq0]; cases k <;> first | decide | exact absurd rfl hk2
 have q4 : ((bs k.bytes).toList == [108, 111, 111, 112]) = false := by rw [bs_beq0]; cases k <;> first | decide | exact absurd rfl hk3
 have y1 : w.cell? ⟨yb, 1, none⟩ = some (.int .i64 fuel) := by rw [blk_cell hin.ob.y]; rfl
 have y2 : w.cell? ⟨yb, 2, none⟩ = some (.int .i64 st.steps) := by rw [blk_cell hin.ob.y]; rfl
 have y4 : w.cell? ⟨yb, 4, none⟩ = some (.bool false) := by rw [blk_cell hin.ob.y]; simp [wkCells, he]
 have f2 : w.frozen? ⟨yb, 2, none⟩ = false := blk_free hin.ob.y 2
 have hyl := blk_lt hin.ob.y
 have q9 : ((st.steps : Int) == (fuel : Int)) = false := by rw [beq_eq_false_iff_ne]; omega
 have hss := hs.s
 have hsf := hs.f
 have HK : Hid _ := hka
 have HBG : Hid _ := fun m => hin.begin m
 have HW0 : Hid _ := hin.ob.b0.size
 have H1 : Hid _ := h1
 have H2 : Hid _ := h2
 have HM : Hid _ := hm
 clear hka hkw hx hin henv hs he hev hq hT1 hT2 iha ihd hs' hs2 hs3 hr1 hr2 h1 h2 hm hlen hmd hR hta htd
 go_enter Tryz.func51, Tryz.ntmps51
 go_wp2_with fail
 go_quiet (fail)
 go_wp2_with fail
 have HBQ : Hid _ := HBG.out nq
 have HNQ : Hid _ := blk_newS w nq ⟨yb, 2, none⟩ (.int .i64 ((st.steps : Int) + 1)) arr2
 clear HBG x0 y1 y2 y4 f2
 generalize hQ : w.heap.size = Q at *
 go_loopw [11] (fun i wr => ∃ (j : Nat) (nv4 : Value), i = .int .i64 j ∧ FrO w wr yb nv nv4 ∧ ((j = 0 ∧ WkIn w0 wr yb vals ps fuel { st with steps := st.steps + 1 } nv4 ∧ wr.heap[Q]? = some (two2 (.pointer none) (.pointer none))) ∨ (j = 1 ∧ ∃ p1 : Nat, WkIn w0 wr yb vals ps fuel r1.2 nv4 ∧ wr.heap[Q]? = some (two2 (.pointer (some ⟨p1, 0, none⟩)) (.pointer none)) ∧ KVal wr r1.1 p1) ∨ (j = 2 ∧ ∃ p1 p2 : Nat, WkIn w0 wr yb vals ps fuel r2.2 nv4 ∧ wr.heap[Q]? = some (two2 (.pointer (some ⟨p1, 0, none⟩)) (.pointer (some ⟨p2, 0, none⟩))) ∧ KVal wr r1.1 p1 ∧ KVal wr r2.1 p2))) (fun i _ => 2 - (intOf i).toNat)
 case atStart => exact ⟨0, nv, rfl, HBQ.out.2, Or.inl ⟨rfl, HBQ.out.1, HNQ.out⟩⟩
 case round =>
  obtain ⟨j, nv4, rfl, hfr, hP⟩ := hrel
  have HF : Hid _ := hfr
  rcases hP with ⟨rfl, hin4, hQb⟩ | ⟨rfl, p1, hin4, hQb, hv1⟩ | ⟨rfl, p1, p2, hin4, hQb, hv1, hv2⟩
  ·have hkw := HK.out.on hin4.ob.b0
   have u2 := hkw.c2
   have uk := hkw.ck 0 pa rfl
   have ul1 := hkw.hb
   have ul2 := hkw.hg
   have HI : Hid _ := hin4
   have HQB : Hid _ := hQb
   have HC : Hid _ := H1.out nv4 wr hin4
   clear hfr hin4 hQb hkw
   go_wp2_with fail
   refine Calls.mono HC.out ?_
   rintro _ w2 ⟨r, nv5, rfl, hf5, hi5, hv5⟩
   have hQ2 : w2.heap[Q]? = some (two2 (.pointer none) (.pointer none)) := HI.out.ob.other hf5 (by decide) (by decide) HQB.out
   have ql := blk_lt hQ2
   have qf : w2.frozen? ⟨Q, 0, none⟩ = false := blk_free hQ2 0
   have qc : w2.cell? ⟨Q, 0, none⟩ = some (.pointer none) := by rw [blk_cell hQ2]; rfl
   have hqw0 : w0.heap.size ≤ Q := by have := HW0.out; omega
   have HF5 : Hid _ := (HF.out.trans hf5).setNew (q := Q) (o := 0) (x := .pointer (some ⟨r, 0, none⟩)) (by omega)
   have HI5 : Hid _ := hi5.setElse (o := 0) (x := .pointer (some ⟨r, 0, none⟩)) hQ2 hqw0
   have HV5 : Hid _ := hv5.setElse (o := 0) (x := .pointer (some ⟨r, 0, none⟩)) hQ2
   have HQ5 : Hid ((w2.setCell ⟨Q, 0, none⟩ (.pointer (some ⟨r, 0, none⟩))).heap[Q]? = some (two2 (.pointer (some ⟨r, 0, none⟩)) (.pointer none))) := (blk_set hQ2 0 _).trans rfl
   clear hf5 hi5 hv5 hQ2 HC HI HQB
   go_wp2
   go_roundw
   case rel => exact ⟨1, nv5, by first | rfl | go_num, HF5.out, Or.inr (Or.inl ⟨rfl, r, HI5.out, HQ5.out, HV5.out⟩)⟩
   case measure => simp [intOf]
  ·have hkw := HK.out.on hin4.ob.b0
   have u2 := hkw.c2
   have uk := hkw.ck 1 pd rfl
   have ul1 := hkw.hb
   have ul2 := hkw.hg
   have HI : Hid _ := hin4
   have HQB : Hid _ := hQb
   have HV1 : Hid _ := hv1
   have HC : Hid _ := H2.out nv4 wr hin4
   clear hfr hin4 hQb hkw hv1
   go_wp2_with fail
   refine Calls.mono HC.out ?_
   rintro _ w2 ⟨r, nv5, rfl, hf5, hi5, hv5⟩
   have hQ2 : w2.heap[Q]? = some (two2 (.pointer (some ⟨p1, 0, none⟩)) (.pointer none)) := HI.out.ob.other hf5 (by decide) (by decide) HQB.out
   have ql := blk_lt hQ2
   have qf : w2.frozen? ⟨Q, 1, none⟩ = false := blk_free hQ2 1
   have qc : w2.cell? ⟨Q, 1, none⟩ = some (.pointer none) := by rw [blk_cell hQ2]; rfl
   have hqw0 : w0.heap.size ≤ Q := by have := HW0.out; omega
   have HF5 : Hid _ := (HF.out.trans hf5).setNew (q := Q) (o := 1) (x := .pointer (some ⟨r, 0, none⟩)) (by omega)
   have HI5 : Hid _ := hi5.setElse (o := 1) (x := .pointer (some ⟨r, 0, none⟩)) hQ2 hqw0
   have HV5 : Hid _ := hv5.setElse (o := 1) (x := .pointer (some ⟨r, 0, none⟩)) hQ2
   have HV6 : Hid _ := (HV1.out.fr HI.out.ob hf5).setElse (o := 1) (x := .pointer (some ⟨r, 0, none⟩)) hQ2
   have HQ5 : Hid ((w2.setCell ⟨Q, 1, none⟩ (.pointer (some ⟨r, 0, none⟩))).heap[Q]? = some (two2 (.pointer (some ⟨p1, 0, none⟩)) (.pointer (some ⟨r, 0, none⟩)))) := (blk_set hQ2 1 _).trans rfl
   clear hf5 hi5 hv5 hQ2 HC HI HQB HV1
   go_wp2
   go_roundw
   case rel => exact ⟨2, nv5, by first | rfl | go_num, HF5.out, Or.inr (Or.inr ⟨rfl, p1, r, HI5.out, HQ5.out, HV6.out, HV5.out⟩)⟩
   case measure => simp [intOf]
  ·have hkw := HK.out.on hin4.ob.b0
   have u2 := hkw.c2
   have ul1 := hkw.hb
   have ul2 := hkw.hg
   have e4 : wr.cell? ⟨yb, 4, none⟩ = some (.bool (decide (r2.2.e ≠ 0))) := by rw [blk_cell hin4.ob.y]; rfl
   have hylr := blk_lt hin4.ob.y
   have qa : wr.cell? ⟨Q, 0, none⟩ = some (.pointer (some ⟨p1, 0, none⟩)) := by rw [blk_cell hQb]; rfl
   have qb : wr.cell? ⟨Q, 1, none⟩ = some (.pointer (some ⟨p2, 0, none⟩)) := by rw [blk_cell hQb]; rfl
   have ql := blk_lt hQb
   have HI : Hid _ := hin4
   by_cases he2 : r2.2.e = 0
   ·rw [show decide (r2.2.e ≠ 0) = false by simp [he2]] at e4
    have HC : Hid _ := HM.out nv4 wr p1 p2 he2 hin4 hv1 hv2
    have HR : Hid _ := HRN.out he2
    clear hfr hin4 hQb hkw hv1 hv2 he2
    go_wp2_with fail
    refine Calls.mono HC.out ?_
    rintro _ w2 ⟨r, rfl, hf5, hi5, hv5⟩
    have HF5 : Hid _ := HF.out.trans hf5
    have HI5 : Hid _ := hi5
    have HV5 : Hid _ := hv5
    clear hf5 hi5 hv5 HC
    go_wp2
    go_ret
    rw [HR.out]
    exact ⟨r, nv4, rfl, HF5.out, HI5.out, HV5.out⟩
   ·rw [show decide (r2.2.e ≠ 0) = true by simp [he2]] at e4
    have HR : Hid _ := HRE.out he2
    clear hfr hin4 hQb hkw hv1 hv2 he2
    go_wp2
    go_ret
    rw [HR.out]
    have hbn := below_alZ (Below.refl _ wr) kn0
    exact ⟨wr.heap.size, nv4, rfl, HF.out.trans (FrO.below hbn _ _), HI.out.grow hbn, blk_new wr kn0⟩
set_option maxRecDepth 100000 in
set_option maxHeartbeats 4000000 in
theorem kgo_one {w0 : World} (yb fuel : Nat) (vs : List Nat) (k : Kw) (a : KE) (ta : Nat) (hk1 : k ≠ .let_) (hk2 : k ≠ .if_) (hk3 : k ≠ .loop) (hta : KT vs a ta) (hvl : vs.length ≤ 100) (iha : KGo w0 yb fuel a vs) (hmd : Made1 w0 yb fuel k (tyZ ta)) : KGoN w0 yb fuel (.n1 k a) vs := by
 intro b vals ps st nv w hx hin henv hlen hs he hq
 obtain ⟨c, pa, hka, hT1⟩ := katz1 hx
 have hne : b ≠ yb := by have := hin.ob.hyb; have := hka.hb; omega
 have hgy : c ≠ yb := by have := hin.ob.hyb; have := hka.hg; omega
 have hev : ev fuel ((KE.n1 k a).pt []) (envV vals) st = partsV fuel k [a.pt []] (envV vals) { st with steps := st.steps + 1 } := by
  simp only [KE.pt]
  rw [ev_parts fuel _ k _ _ _ (envV vals) st hk1 hk2 hk3, begun_goZ he hq]
 rw [hev, partsV1]
 have hs' := hs.step hq
 have hr1 := kev_res (fuel := fuel) hta hvl vals { st with steps := st.steps + 1 } (fun _ => henv)
 have h1 := fun nv2 w2 (hin2 : WkIn w0 w2 yb vals ps fuel { st with steps := st.steps + 1 } nv2) => iha pa vals ps { st with steps := st.steps + 1 } nv2 w2 hT1 hin2 (fun _ => henv) hlen hs'
 generalize ev fuel (a.pt []) (envV vals) { st with steps := st.steps + 1 } = r1 at *
 obtain ⟨R, hR⟩ : ∃ R, R = if r1.2.e ≠ 0 then (Vl.n 0, r1.2) else madeV k [r1.1] r1.2 := ⟨_, rfl⟩
 rw [← hR]
 have HRN : Hid (r1.2.e = 0 → R = madeV k [r1.1] r1.2) := fun h => by rw [hR, if_neg (fun g => g h)]
 have HRE : Hid (r1.2.e ≠ 0 → R = (Vl.n 0, r1.2)) := fun h => by rw [hR, if_pos h]
 have hm : ∀ (nv2 : Value) (w2 : World) (p1 : Nat), r1.2.e = 0 → WkIn w0 w2 yb vals ps fuel r1.2 nv2 → KVal w2 r1.1 p1 →
   Calls Tryz.prog 86 #[.pointer (some ⟨yb, 0, none⟩), .pointer (some ⟨b, 0, none⟩), .pointer (some ⟨p1, 0, none⟩), .pointer none] w2 fun e w' => ∃ r, e = .returned (.pointer (some ⟨r, 0, none⟩)) ∧ FrO w2 w' yb nv2 nv2 ∧ WkIn w0 w' yb vals ps fuel (madeV k [r1.1] r1.2).2 nv2 ∧ KVal w' (madeV k [r1.1] r1.2).1 r := by
  intro nv2 w2 p1 e hin2 hv1
  exact hmd b c 0 [pa] vals ps r1.2 nv2 w2 r1.1 p1 hka hin2 (hr1.1 e).2 hv1
 have hkw := hka.on hin.ob.b0
 have x0 := hkw.c0
 have xl1 := hkw.hb
 have xl2 := hkw.hg
 have q0 : ((bs k.bytes).toList == []) = false := by rw [bs_beq0]; cases k <;> decide
 have q1 : ((bs k.bytes).toList == [120]) = false := by rw [bs_beq0]; cases k <;> decide
 have q2 : ((bs k.bytes).toList == [108, 101, 116]) = false := by rw [bs_beq0]; cases k <;> first | decide | exact absurd rfl hk1
 have q3 : ((bs k.bytes).toList == [105, 102]) = false := by rw [bs_beq0]; cases k <;> first | decide | exact absurd rfl hk2
 have q4 : ((bs k.bytes).toList == [108, 111, 111, 112]) = false := by rw [bs_beq0]; cases k <;> first | decide | exact absurd rfl hk3
 have y1 : w.cell? ⟨yb, 1, none⟩ = some (.int .i64 fuel) := by rw [blk_cell hin.ob.y]; rfl
 have y2 : w.cell? ⟨yb, 2, none⟩ = some (.int .i64 st.steps) := by rw [blk_cell hin.ob.y]; rfl
 have y4 : w.cell? ⟨yb, 4, none⟩ = some (.bool false) := by rw [blk_cell hin.ob.y]; simp [wkCells, he]
 have f2 : w.frozen? ⟨yb, 2, none⟩ = false := blk_free hin.ob.y 2
 have hyl := blk_lt hin.ob.y
 have q9 : ((st.steps : Int) == (fuel : Int)) = false := by rw [beq_eq_false_iff_ne]; omega
 have hss := hs.s
 have hsf := hs.f
 have HK : Hid _ := hka
 have HBG : Hid _ := fun m => hin.begin m
 have HW0 : Hid _ := hin.ob.b0.size
 have H1 : Hid _ := h1
 have HM : Hid _ := hm
 clear hka hkw hx hin henv hs he hev hq hT1 iha hs' hr1 h1 hm hlen hmd hR hta
 go_enter Tryz.func51, Tryz.ntmps51
 go_wp2_with fail
 go_quiet (fail)
 go_wp2_with fail
 have HBQ : Hid _ := HBG.out nq
 have HNQ : Hid _ := blk_newS w nq ⟨yb, 2, none⟩ (.int .i64 ((st.steps : Int) + 1)) arr2
 clear HBG x0 y1 y2 y4 f2
 generalize hQ : w.heap.size = Q at *
 go_loopw [11] (fun i wr => ∃ (j : Nat) (nv4 : Value), i = .int .i64 j ∧ FrO w wr yb nv nv4 ∧ ((j = 0 ∧ WkIn w0 wr yb vals ps fuel { st with steps := st.steps + 1 } nv4 ∧ wr.heap[Q]? = some (two2 (.pointer none) (.pointer none))) ∨ (j = 1 ∧ ∃ p1 : Nat, WkIn w0 wr yb vals ps fuel r1.2 nv4 ∧ wr.heap[Q]? = some (two2 (.pointer (some ⟨p1, 0, none⟩)) (.pointer none)) ∧ KVal wr r1.1 p1))) (fun i _ => 1 - (intOf i).toNat)
 case atStart => exact ⟨0, nv, rfl, HBQ.out.2, Or.inl ⟨rfl, HBQ.out.1, HNQ.out⟩⟩
 case round =>
  obtain ⟨j, nv4, rfl, hfr, hP⟩ := hrel
  have HF : Hid _ := hfr
  rcases hP with ⟨rfl, hin4, hQb⟩ | ⟨rfl, p1, hin4, hQb, hv1⟩
  ·have hkw := HK.out.on hin4.ob.b0
   have u2 := hkw.c2
   have uk := hkw.ck 0 pa rfl
   have ul1 := hkw.hb
   have ul2 := hkw.hg
   have HI : Hid _ := hin4
   have HQB : Hid _ := hQb
   have HC : Hid _ := H1.out nv4 wr hin4
   clear hfr hin4 hQb hkw
   go_wp2_with fail
   refine Calls.mono HC.out ?_
   rintro _ w2 ⟨r, nv5, rfl, hf5, hi5, hv5⟩
   have hQ2 : w2.heap[Q]? = some (two2 (.pointer none) (.pointer none)) := HI.out.ob.other hf5 (by decide) (by decide) HQB.out
   have ql := blk_lt hQ2
   have qf : w2.frozen? ⟨Q, 0, none⟩ = false := blk_free hQ2 0
   have qc : w2.cell? ⟨Q, 0, none⟩ = some (.pointer none) := by rw [blk_cell hQ2]; rfl
   have hqw0 : w0.heap.size ≤ Q := by have := HW0.out; omega
   have HF5 : Hid _ := (HF.out.trans hf5).setNew (q := Q) (o := 0) (x := .pointer (some ⟨r, 0, none⟩)) (by omega)
   have HI5 : Hid _ := hi5.setElse (o := 0) (x := .pointer (some ⟨r, 0, none⟩)) hQ2 hqw0
   have HV5 : Hid _ := hv5.setElse (o := 0) (x := .pointer (some ⟨r, 0, none⟩)) hQ2
   have HQ5 : Hid ((w2.setCell ⟨Q, 0, none⟩ (.pointer (some ⟨r, 0, none⟩))).heap[Q]? = some (two2 (.pointer (some ⟨r, 0, none⟩)) (.pointer none))) := (blk_set hQ2 0 _).trans rfl
   clear hf5 hi5 hv5 hQ2 HC HI HQB
   go_wp2
   go_roundw
   case rel => exact ⟨1, nv5, by first | rfl | go_num, HF5.out, Or.inr ⟨rfl, r, HI5.out, HQ5.out, HV5.out⟩⟩
   case measure => simp [intOf]
  ·have hkw := HK.out.on hin4.ob.b0
   have u2 := hkw.c2
   have ul1 := hkw.hb
   have ul2 := hkw.hg
   have e4 : wr.cell? ⟨yb, 4, none⟩ = some (.bool (decide (r1.2.e ≠ 0))) := by rw [blk_cell hin4.ob.y]; rfl
   have hylr := blk_lt hin4.ob.y
   have qa : wr.cell? ⟨Q, 0, none⟩ = some (.pointer (some ⟨p1, 0, none⟩)) := by rw [blk_cell hQb]; rfl
   have qb : wr.cell? ⟨Q, 1, none⟩ = some (.pointer none) := by rw [blk_cell hQb]; rfl
   have ql := blk_lt hQb
   have HI : Hid _ := hin4
   by_cases he2 : r1.2.e = 0
   ·rw [show decide (r1.2.e ≠ 0) = false by simp [he2]] at e4
    have HC : Hid _ := HM.out nv4 wr p1 he2 hin4 hv1
    have HR : Hid _ := HRN.out he2
    clear hfr hin4 hQb hkw hv1 he2
    go_wp2_with fail
    refine Calls.mono HC.out ?_
    rintro _ w2 ⟨r, rfl, hf5, hi5, hv5⟩
    have HF5 : Hid _ := HF.out.trans hf5
    have HI5 : Hid _ := hi5
    have HV5 : Hid _ := hv5
    clear hf5 hi5 hv5 HC
    go_wp2
    go_ret
    rw [HR.out]
    exact ⟨r, nv4, rfl, HF5.out, HI5.out, HV5.out⟩
   ·rw [show decide (r1.2.e ≠ 0) = true by simp [he2]] at e4
    have HR : Hid _ := HRE.out he2
    clear hfr hin4 hQb hkw hv1 he2
    go_wp2
    go_ret
    rw [HR.out]
    have hbn := below_alZ (Below.refl _ wr) kn0
    exact ⟨wr.heap.size, nv4, rfl, HF.out.trans (FrO.below hbn _ _), HI.out.grow hbn, blk_new wr kn0⟩
theorem kgo_any {w0 : World} (yb fuel : Nat) : ∀ {vs : List Nat} {x : KE} {t : Nat}, KT vs x t → vs.length ≤ 100 → KGo w0 yb fuel x vs := by
 intro vs x t h
 induction h with
 | num _ => intro _; exact go1_of (kgo_num yb fuel _ _)
 | var h => intro hl; exact go1_of (kgo_var yb fuel _ _ (List.getElem?_eq_some_iff.1 h).1 (by omega))
 | let_ _ hl h1 _ ha hb => intro _; exact go1_of (kgo_let yb fuel _ _ _ _ h1 hl (ha (by omega)) (hb (by simp; omega)))
 | if_ h1 _ _ ha hb hc => intro hl; exact go1_of (kgo_if yb fuel _ _ _ _ h1 hl (ha hl) (hb hl) (hc hl))
 | loop hl h1 h2 h3 ha hb hc => intro _; exact go1_of (kgo_loop yb fuel _ _ _ _ _ h1 h2 h3 hl (ha (by omega)) (hb (by omega)) (hc (by simp; omega)))
 | pair _ _ h1 h2 ha hb => intro hl; exact go1_of (kgo_two yb fuel _ .pair 0 _ _ _ _ (by decide) (by decide) (by decide) h1 h2 hl (ha hl) (hb hl) (madeZ_pair yb fuel _ _))
 | fst h0 hp h1 ha => intro hl; exact go1_of (kgo_one yb fuel _ .fst _ _ (by decide) (by decide) (by decide) h1 hl (ha hl) (by rw [tyZ_pair hp h0]; exact madeZ_fst yb fuel _ _ _))
 | snd h0 hp h1 ha => intro hl; exact go1_of (kgo_one yb fuel _ .snd _ _ (by decide) (by decide) (by decide) h1 hl (ha hl) (by rw [tyZ_pair hp h0]; exact madeZ_snd yb fuel _ _ _))
 | two hk h1 h2 ha hb =>
  intro hl
  rcases hk with rfl | rfl | rfl
  ·exact go1_of (kgo_two yb fuel _ .add 0 _ _ _ _ (by decide) (by decide) (by decide) h1 h2 hl (ha hl) (hb hl) (madeZ_add yb fuel))
  ·exact go1_of (kgo_two yb fuel _ .sub 0 _ _ _ _ (by decide) (by decide) (by decide) h1 h2 hl (ha hl) (hb hl) (madeZ_sub yb fuel))
  ·exact go1_of (kgo_two yb fuel _ .less 0 _ _ _ _ (by decide) (by decide) (by decide) h1 h2 hl (ha hl) (hb hl) (madeZ_less yb fuel))
end Go.Proofs.YtpicaknklgccoaaGreatDoor
namespace Go.Proofs.YtpicaknklgccoaaGreatDoor
open Go.RowKit
def bA (s : ByteArray) (a : Nat) : UInt8 := if h : a < s.size then s[a] else 0
theorem bA_in (s : ByteArray) (a : Nat) (h : a < s.size) : bA s a = s[a] := by unfold bA; rw [dif_pos h]
theorem bA_out (s : ByteArray) (a : Nat) (h : s.size ≤ a) : bA s a = 0 := by unfold bA; rw [dif_neg (by omega)]
set_option maxHeartbeats 400000 in
theorem byteAt_any (s : ByteArray) (a : Nat) (w : World) (ha : a ≤ 10000) :
  Calls Tryz.prog 192 #[.string s, .int .i64 a] w fun e w' => e = .returned (.int .u8 ((bA s a).toNat : Int)) ∧ w' = w := by
 by_cases h : a < s.size
 ·rw [bA_in s a h]
  go_enter Tryz.func192, Tryz.ntmps192
  go_wp2
  go_ret
  exact ⟨rfl, rfl⟩
 ·rw [bA_out s a (by omega)]
  go_enter Tryz.func192, Tryz.ntmps192
  go_wp2
  go_ret
  exact ⟨rfl, rfl⟩
set_option maxHeartbeats 400000 in
theorem isLetter_any (c : UInt8) (w : World) :
  Calls Tryz.prog 193 #[.int .u8 (c.toNat : Int)] w fun e w' => e = .returned (.bool (inB 97 122 c)) ∧ w' = w := by
 have hc : c.toNat < 256 := c.toNat_lt
 unfold inB
 go_enter Tryz.func193, Tryz.ntmps193
 go_wp2
 all_goals go_ret
 ·refine ⟨ret_bool ?_, rfl⟩
  have h1 : (97 : Int) ≤ (c.toNat : Int) := by assumption
  simp [h1]
 ·refine ⟨ret_bool ?_, rfl⟩
  have h1 : ¬ (97 : Int) ≤ (c.toNat : Int) := by omega
  simp [h1]
set_option maxHeartbeats 400000 in
theorem isDigit_any (c : UInt8) (w : World) :
  Calls Tryz.prog 195 #[.int .u8 (c.toNat : Int)] w fun e w' => e = .returned (.bool (inB 48 57 c)) ∧ w' = w := by
 have hc : c.toNat < 256 := c.toNat_lt
 unfold inB
 go_enter Tryz.func195, Tryz.ntmps195
 go_wp2
 all_goals go_ret
 ·refine ⟨ret_bool ?_, rfl⟩
  have h1 : (48 : Int) ≤ (c.toNat : Int) := by assumption
  simp [h1]
 ·refine ⟨ret_bool ?_, rfl⟩
  have h1 : ¬ (48 : Int) ≤ (c.toNat : Int) := by omega
  simp [h1]
set_option maxHeartbeats 400000 in
theorem isBlank_any (c : UInt8) (w : World) :
  Calls Tryz.prog 202 #[.int .u8 (c.toNat : Int)] w fun e w' => e = .returned (.bool (blankB c)) ∧ w' = w := by
 have e1 : ((c.toNat : Int) == 32) = (c == 32) := byte_eq c 32
 have e2 : ((c.toNat : Int) == 10) = (c == 10) := byte_eq c 10
 unfold blankB
 rw [← e1, ← e2]
 clear e1 e2
 go_enter Tryz.func202, Tryz.ntmps202
 go_wp2
 all_goals go_ret
 all_goals
  refine ⟨ret_bool ?_, rfl⟩
  simp_all
def nbl : List UInt8 → Nat
 | [] => 0
 | c :: r => if blankB c then nbl r + 1 else 0
theorem nbl_le (l : List UInt8) : nbl l ≤ l.length := by
 induction l with
 | nil => simp [nbl]
 | cons c r ih => simp only [nbl]; split <;> simp <;> omega
set_option maxRecDepth 100000 in
set_option maxHeartbeats 1000000 in
theorem skipBlanks_any (s : ByteArray) (a : Nat) (w : World) (hs : s.size ≤ 9000) (ha : a ≤ s.size) :
  Calls Tryz.prog 191 #[.string s, .int .i64 a] w fun e w' => e = .returned (.int .i64 ((a + nbl (s.data.toList.drop a) : Nat) : Int)) ∧ w' = w := by
 have hby := fun k (h : k ≤ 10000) w => byteAt_any s k w h
 go_enter Tryz.func191, Tryz.ntmps191
 go_wp2
 go_loop [5] (fun i => ∃ k : Nat, k ≤ s.size ∧ i = .int .i64 k ∧ a + nbl (s.data.toList.drop a) = k + nbl (s.data.toList.drop k)) (fun i => s.size - (intOf i).toNat)
 case atStart => exact ⟨a, ha, rfl, rfl⟩
 case round =>
  obtain ⟨k, hk, rfl, hr⟩ := hrel
  have HR : Hid _ := hr
  clear hr
  by_cases hlt : k < s.size
  ·by_cases hb : blankB s[k] = true
   ·have hn : nbl (s.data.toList.drop k) = nbl (s.data.toList.drop (k + 1)) + 1 := by rw [drop_cons s k hlt]; simp [nbl, hb]
    have HN : Hid _ := hn
    have hbl := fun w => isBlank_any s[k] w
    rw [hb] at hbl
    have hbk := hby k (by omega)
    rw [bA_in s k hlt] at hbk
    clear hn hb
    go_wp2_with (first
     | (go_at_call 192; refine (hbk _).mono ?_; rintro e w' ⟨rfl, rfl⟩)
     | (go_at_call 202; refine (hbl _).mono ?_; rintro e w' ⟨rfl, rfl⟩))
    go_round
    case rel => exact ⟨k + 1, by omega, by go_num, by rw [HR.out, HN.out]; omega⟩
    case measure => simp [intOf]; omega
   ·have hb0 : blankB s[k] = false := by simpa using hb
    have hn : nbl (s.data.toList.drop k) = 0 := by rw [drop_cons s k hlt]; simp [nbl, hb0]
    have HN : Hid _ := hn
    have hbl := fun w => isBlank_any s[k] w
    rw [hb0] at hbl
    have hbk := hby k (by omega)
    rw [bA_in s k hlt] at hbk
    clear hn hb hb0
    go_wp2_with (first
     | (go_at_call 192; refine (hbk _).mono ?_; rintro e w' ⟨rfl, rfl⟩)
     | (go_at_call 202; refine (hbl _).mono ?_; rintro e w' ⟨rfl, rfl⟩))
    go_ret
    exact ⟨ret_int (by have h1 := HR.out; have h2 := HN.out; omega), rfl⟩
  ·have hn : nbl (s.data.toList.drop k) = 0 := by rw [drop_end s k (by omega)]; rfl
   have HN : Hid _ := hn
   clear hn
   go_wp2
   go_ret
   exact ⟨ret_int (by have h1 := HR.out; have h2 := HN.out; omega), rfl⟩
set_option maxRecDepth 100000 in
set_option maxHeartbeats 1000000 in
theorem valueOf_any (s : ByteArray) (a n b : Nat) (w : World) (hs : s.size ≤ 9000) (hab : b = a + n) (ha : b ≤ s.size) (hn : n ≤ 5) (hd : ∀ c ∈ (s.data.toList.drop a).take n, c ≠ 35) :
  Calls Tryz.prog 205 #[.string s, .int .i64 a, .int .i64 b] w fun e w' => e = .returned (.int .i64 (valueL ((s.data.toList.drop a).take n))) ∧ w' = w := by
 have hby := fun k (h : k ≤ 10000) w => byteAt_any s k w h
 have HD : Hid _ := hd
 clear hd
 go_enter Tryz.func205, Tryz.ntmps205
 go_wp2
 go_loop [7, 8] (fun v i => ∃ k j : Nat, k ≤ n ∧ j = a + k ∧ i = .int .i64 j ∧ v = .int .i64 (valueL ((s.data.toList.drop a).take k))) (fun _ i => b - (intOf i).toNat)
 case atStart => exact ⟨0, a, by omega, rfl, rfl, rfl⟩
 case round =>
  obtain ⟨k, j, hk, hj, rfl, rfl⟩ := hrel
  have hb := valueL_bd ((s.data.toList.drop a).take k)
  have hp := pow5 ((s.data.toList.drop a).take k).length (by simp; omega)
  obtain ⟨m, hm⟩ : ∃ m, m = valueL ((s.data.toList.drop a).take k) := ⟨_, rfl⟩
  rw [← hm] at hb
  obtain ⟨hb1, hb2⟩ : -3000000 ≤ m ∧ m ≤ 3000000 := by omega
  clear hp hb
  by_cases hlt : k < n
  ·have hin : j < s.size := by omega
   have hsn : valueL ((s.data.toList.drop a).take (k + 1)) = 10 * m + (s[j].toNat : Int) - 48 := by
    have e : (s.data.toList.drop a).take (k + 1) = (s.data.toList.drop a).take k ++ [s[j]] := by
     subst hj; rw [List.take_succ_eq_append_getElem (by simp; omega), List.getElem_drop]; rfl
    have hne : s[j] ≠ 35 := by
     apply HD.out
     have : s[j] ∈ (s.data.toList.drop a).take (k + 1) := by rw [e]; simp
     rw [show (s.data.toList.drop a).take (k + 1) = ((s.data.toList.drop a).take n).take (k + 1) from by rw [List.take_take, Nat.min_eq_left (by omega)]] at this
     exact List.mem_of_mem_take this
    rw [e, valueL_snoc, if_neg hne, hm]
   have HS : Hid _ := hsn
   have hcb : s[j].toNat < 256 := s[j].toNat_lt
   have HC : Hid _ := hcb
   have hbk := hby j (by omega)
   rw [bA_in s j hin] at hbk
   clear hsn hcb
   rw [← hm]
   have HM : Hid _ := hm
   clear hm
   have HJ : Hid (j = a + k) := hj
   have hjb : j < b := by omega
   have HAB : Hid (b = a + n) := hab
   clear hj hab
   go_wp2_with fail
   refine (hbk _).mono ?_
   rintro e w' ⟨rfl, rfl⟩
   go_wp2
   go_round
   case rel =>
    have := HJ.out
    refine ⟨k + 1, j + 1, by omega, by omega, by go_num, ?_⟩
    rw [HS.out]
    have := HC.out
    rw [IntWalk.wrap64_in (s[j].toNat : Int) (by omega), IntWalk.wrap64_in (m * 10 + (s[j].toNat : Int)) (by omega), IntWalk.wrap64_in _ (by omega), Int.mul_comm m 10]
   case measure => simp [intOf]; omega
  ·have hkn : k = n := by omega
   subst hkn
   go_wp2
   go_ret
   exact ⟨rfl, rfl⟩
set_option maxHeartbeats 400000 in
theorem cut_any (s : ByteArray) (a b : Nat) (w : World) (ha : a ≤ b) (hb : b ≤ s.size) :
  Calls Tryz.prog 203 #[.string s, .int .i64 a, .int .i64 b] w fun e w' => e = .returned (.string (s.extract a b)) ∧ w' = w := by
 go_enter Tryz.func203, Tryz.ntmps203
 go_wp2
 go_ret
 exact ⟨rfl, rfl⟩
theorem kw_key (s : ByteArray) (k : Kw) : (s.toList == k.bytes) = decide (kwOf s.data.toList = some k) := by
 rw [Lib.toList_data]
 by_cases h : kwOf s.data.toList = some k
 ·rw [decide_eq_true h, kwOf_some h]; simp
 ·rw [decide_eq_false h, beq_eq_false_iff_ne]
  intro e; rw [e, kwOf_bytes] at h; exact h rfl
set_option maxRecDepth 100000 in
set_option maxHeartbeats 1000000 in
theorem kindOf_any (s : ByteArray) (w : World) :
  Calls Tryz.prog 204 #[.string s] w fun e w' => e = .returned (.int .i64 ((kindN (wordCl s.data.toList 0) : Nat) : Int)) ∧ w' = w := by
 have f1 := kw_key s .let_
 have f2 := kw_key s .pair
 have f3 := kw_key s .fst
 have f4 := kw_key s .snd
 have f5 := kw_key s .if_
 have f6 := kw_key s .add
 have f7 := kw_key s .sub
 have f8 := kw_key s .less
 have f9 := kw_key s .loop
 have f10 := kw_key s .new
 simp only [Kw.bytes] at f1 f2 f3 f4 f5 f6 f7 f8 f9 f10
 unfold wordCl
 cases hk : kwOf s.data.toList with
 | none =>
  rw [hk] at f1 f2 f3 f4 f5 f6 f7 f8 f9 f10
  simp only [reduceCtorEq, decide_false] at f1 f2 f3 f4 f5 f6 f7 f8 f9 f10
  clear hk
  go_enter Tryz.func204, Tryz.ntmps204
  go_wp2
  go_ret
  exact ⟨rfl, rfl⟩
 | some k =>
  rw [hk] at f1 f2 f3 f4 f5 f6 f7 f8 f9 f10
  clear hk
  cases k
  all_goals
   simp only [Option.some.injEq, reduceCtorEq, decide_false, decide_true] at f1 f2 f3 f4 f5 f6 f7 f8 f9 f10
   go_enter Tryz.func204, Tryz.ntmps204
   go_wp2
   go_ret
   exact ⟨rfl, rfl⟩
def tnVal (t : TN) : Value := .agg #[.int .i64 t.kind, .int .i64 t.at_, .int .i64 t.beh, .string (bs t.word), .int .i64 t.num]
theorem bA_let (s : ByteArray) (k : Nat) (lo hi : Int) (hlo : 0 < lo) : (inB lo hi (bA s k) = true ∧ k < s.size ∧ run lo hi (s.data.toList.drop k) = run lo hi (s.data.toList.drop (k + 1)) + 1) ∨ (inB lo hi (bA s k) = false ∧ run lo hi (s.data.toList.drop k) = 0) := by
 by_cases h : k < s.size
 ·rw [bA_in s k h, drop_cons s k h]
  cases hb : inB lo hi s[k] with
  | true => left; exact ⟨rfl, h, by simp [run, hb]⟩
  | false => right; exact ⟨rfl, by simp [run, hb]⟩
 ·right
  rw [bA_out s k (by omega), drop_end s k (by omega)]
  refine ⟨?_, rfl⟩
  unfold inB
  have h0 : ((0 : UInt8).toNat : Int) = 0 := rfl
  rw [h0, decide_eq_false (by omega : ¬ lo ≤ 0)]; rfl
theorem wordCl_small (l : List UInt8) (n : Nat) (h : n ≤ 8) : wordCl l n = wordCl l 0 := by
 unfold wordCl; cases kwOf l <;> simp [h]
theorem wordCl_big (l : List UInt8) (h : 8 < l.length) : wordCl l l.length = .bad := by
 unfold wordCl
 cases hk : kwOf l with
 | none => simp; omega
 | some k =>
  have := kwOf_some hk
  rw [this] at h
  clear this hk
  revert h
  cases k <;> simp [Kw.bytes]
set_option maxRecDepth 100000 in
set_option maxHeartbeats 1000000 in
theorem readWord_any (s : ByteArray) (a n : Nat) (w : World) (hs : s.size ≤ 9000) (hn : n = run 97 122 (s.data.toList.drop a)) (ha : a + n ≤ s.size) :
  Calls Tryz.prog 194 #[.string s, .int .i64 a] w fun e w' => e = .returned (tnVal ⟨kindN (wordCl ((s.data.toList.drop a).take n) n), a, a + n, if n ≤ 8 then (s.data.toList.drop a).take n else [], 0⟩) ∧ Below w.heap.size w w' := by
 have hby := fun k (h : k ≤ 10000) w => byteAt_any s k w h
 have HN : Hid _ := hn
 clear hn
 go_enter Tryz.func194, Tryz.ntmps194
 go_wp2
 go_loop [5] (fun i => ∃ k j : Nat, k ≤ n ∧ Hid (j = a + k) ∧ j ≤ s.size ∧ i = .int .i64 j ∧ Hid (n = k + run 97 122 (s.data.toList.drop j))) (fun i => s.size - (intOf i).toNat)
 case atStart => exact ⟨0, a, by omega, (rfl : a = a + 0), by omega, rfl, (by rw [← HN.out]; omega : n = 0 + run 97 122 (s.data.toList.drop a))⟩
 case round =>
  obtain ⟨k, j, hk, HJ, hjs, rfl, HR⟩ := hrel
  have hbk := hby j (by omega)
  have hil := fun w => isLetter_any (bA s j) w
  rcases bA_let s j 97 122 (by decide) with ⟨h1, h2, h3⟩ | ⟨h1, h2⟩
  ·rw [h1] at hil
   have H3 : Hid _ := h3
   clear h1 h3
   go_wp2_with (first
    | (go_at_call 192; refine (hbk _).mono ?_; rintro e w' ⟨rfl, rfl⟩)
    | (go_at_call 193; refine (hil _).mono ?_; rintro e w' ⟨rfl, rfl⟩))
   go_round
   case rel => exact ⟨k + 1, j + 1, by have h := HR.out; rw [H3.out] at h; omega, (by have h := HJ.out; omega : j + 1 = a + (k + 1)), by omega, by go_num, (by have h := HR.out; rw [H3.out] at h; omega : n = (k + 1) + run 97 122 (s.data.toList.drop (j + 1)))⟩
   case measure => simp [intOf]; omega
  ·rw [h1] at hil
   have hkn : k = n := by have h := HR.out; rw [h2] at h; omega
   have hja : j = a + n := by rw [← hkn]; exact HJ.out
   clear h1 h2 HR
   have hcu := fun w => cut_any s a j w (by omega) hjs
   have hkd := fun w => kindOf_any (s.extract a j) w
   have hex : (s.extract a j).data.toList = (s.data.toList.drop a).take n := by rw [hja, ext_of]
   rw [hex] at hkd
   have HEX : Hid _ := bs_eq hex
   have HJ' : Hid (j = a + n) := hja
   have hjk : (j : Int) - (a : Int) = (n : Int) := by omega
   clear hex hja hkn HJ hk
   by_cases h8 : n ≤ 8
   ·have H8 : Hid (n ≤ 8) := h8
    go_wp2_with (first
     | (go_at_call 192; refine (hbk _).mono ?_; rintro e w' ⟨rfl, rfl⟩)
     | (go_at_call 193; refine (hil _).mono ?_; rintro e w' ⟨rfl, rfl⟩)
     | (go_at_call 203; refine (hcu _).mono ?_; rintro e w' ⟨rfl, rfl⟩)
     | (go_at_call 204; refine (hkd _).mono ?_; rintro e w' ⟨rfl, rfl⟩))
    refine bodyPost_ret (v := .agg #[.int .i64 ((kindN (wordCl ((s.data.toList.drop a).take n) 0) : Nat) : Int), .int .i64 a, .int .i64 j, .string (s.extract a j), .int .i64 0]) (by simp [results, Tryz.results194, go_sem]) rfl ⟨?_, (Below.refl _ _).alloc (Nat.le_refl _) _⟩
    rw [HEX.out, HJ'.out, wordCl_small _ _ H8.out]; first | rfl | (rw [if_pos H8.out]; rfl)
   ·have H8 : Hid (¬ n ≤ 8) := h8
    have hlen : ((s.data.toList.drop a).take n).length = n := by simp; omega
    have HB : Hid (wordCl ((s.data.toList.drop a).take n) n = .bad) := by
     have := wordCl_big ((s.data.toList.drop a).take n) (by omega)
     rw [hlen] at this; exact this
    clear hlen
    go_wp2_with (first
     | (go_at_call 192; refine (hbk _).mono ?_; rintro e w' ⟨rfl, rfl⟩)
     | (go_at_call 193; refine (hil _).mono ?_; rintro e w' ⟨rfl, rfl⟩))
    refine bodyPost_ret (v := .agg #[.int .i64 1, .int .i64 a, .int .i64 j, .string ⟨#[]⟩, .int .i64 0]) (by simp [results, Tryz.results194, go_sem]) rfl ⟨?_, (Below.refl _ _).alloc (Nat.le_refl _) _⟩
    rw [HB.out, HJ'.out]; first | rfl | (rw [if_neg H8.out]; rfl)
theorem run_mem (lo hi : Int) (l : List UInt8) : ∀ c ∈ l.take (run lo hi l), inB lo hi c = true := by
 induction l with
 | nil => simp
 | cons c r ih =>
  simp only [run]
  by_cases h : inB lo hi c = true
  ·rw [if_pos h, List.take_succ_cons]
   intro x hx
   rcases List.mem_cons.1 hx with rfl | hx
   ·exact h
   ·exact ih x hx
  ·rw [if_neg h]; simp
def numTN (l : List UInt8) (most kind a d n : Nat) : TN := if numeralB (l.take n) most then ⟨kind, a, d + n, [], valueL (l.take n)⟩ else ⟨1, a, d + n, [], 0⟩
set_option maxRecDepth 100000 in
set_option maxHeartbeats 2000000 in
theorem readNumber_any (s : ByteArray) (a d n most kind : Nat) (w : World) (hs : s.size ≤ 9000) (hn : n = run 48 57 (s.data.toList.drop d)) (ha : d + n ≤ s.size) (hm : 3 ≤ most ∧ most ≤ 4) :
  Calls Tryz.prog 196 #[.string s, .int .i64 a, .int .i64 d, .int .i64 most, .int .i64 kind] w fun e w' => e = .returned (tnVal (numTN (s.data.toList.drop d) most kind a d n)) ∧ Below w.heap.size w w' := by
 have hby := fun k (h : k ≤ 10000) w => byteAt_any s k w h
 have hdig : ∀ c ∈ (s.data.toList.drop d).take n, c ≠ 35 := by
  rw [hn]; intro c hc e
  have := run_mem 48 57 _ c hc
  rw [e] at this; revert this; decide
 have HDIG : Hid _ := hdig
 have HN : Hid _ := hn
 have hlen : ((s.data.toList.drop d).take n).length = n := by simp; omega
 have hhead : 0 < n → ((s.data.toList.drop d).take n).head? = some (bA s d) := by
  intro h0
  rw [bA_in s d (by omega), drop_cons s d (by omega)]
  obtain ⟨m, rfl⟩ : ∃ m, n = m + 1 := ⟨n - 1, by omega⟩
  simp
 have hnum : numeralB ((s.data.toList.drop d).take n) most = (decide (0 < n) && decide (n ≤ most) && (decide (n = 1) || (((s.data.toList.drop d).take n).head? != some 48))) := by unfold numeralB; rw [hlen]
 have HNUM : Hid _ := hnum
 have HHEAD : Hid _ := hhead
 clear hn hdig hlen hnum hhead
 go_enter Tryz.func196, Tryz.ntmps196
 go_wp2
 go_loop [11] (fun i => ∃ k j : Nat, k ≤ n ∧ Hid (j = d + k) ∧ j ≤ s.size ∧ i = .int .i64 j ∧ Hid (n = k + run 48 57 (s.data.toList.drop j))) (fun i => s.size - (intOf i).toNat)
 case atStart => exact ⟨0, d, by omega, (rfl : d = d + 0), by omega, rfl, (by rw [← HN.out]; omega : n = 0 + run 48 57 (s.data.toList.drop d))⟩
 case round =>
  obtain ⟨k, j, hk, HJ, hjs, rfl, HR⟩ := hrel
  have hbk := hby j (by omega)
  have hil := fun w => isDigit_any (bA s j) w
  rcases bA_let s j 48 57 (by decide) with ⟨h1, h2, h3⟩ | ⟨h1, h2⟩
  ·rw [h1] at hil
   have H3 : Hid _ := h3
   clear h1 h3
   go_wp2_with (first
    | (go_at_call 192; refine (hbk _).mono ?_; rintro e w' ⟨rfl, rfl⟩)
    | (go_at_call 195; refine (hil _).mono ?_; rintro e w' ⟨rfl, rfl⟩))
   go_round
   case rel => exact ⟨k + 1, j + 1, by have h := HR.out; rw [H3.out] at h; omega, (by have h := HJ.out; omega : j + 1 = d + (k + 1)), by omega, by go_num, (by have h := HR.out; rw [H3.out] at h; omega : n = (k + 1) + run 48 57 (s.data.toList.drop (j + 1)))⟩
   case measure => simp [intOf]; omega
  ·rw [h1] at hil
   have hkn : k = n := by have h := HR.out; rw [h2] at h; omega
   have hja : j = d + n := by rw [← hkn]; exact HJ.out
   clear h1 h2 HR
   have HJ' : Hid (j = d + n) := hja
   have hjk : (j : Int) - (d : Int) = (n : Int) := by omega
   have hbd := hby d (by omega)
   have e48 : (((bA s d).toNat : Int) == 48) = (bA s d == 48) := byte_eq (bA s d) 48
   have HE48 : Hid _ := e48
   clear hja hkn HJ hk e48
   by_cases c0 : n = 0
   ·have b0 : ((n : Int) == 0) = true := by rw [c0]; rfl
    have HF : Hid (numTN (s.data.toList.drop d) most kind a d n = ⟨1, a, d + n, [], 0⟩) := by
     have : numeralB ((s.data.toList.drop d).take n) most = false := by rw [HNUM.out]; simp [c0]
     unfold numTN; rw [this]; rfl
    have c0' : n < 1 := by omega
    clear c0
    go_wp2_with (first
     | (go_at_call_of 192 (Value.int IntKind.i64 (j : Int)); refine (hbk _).mono ?_; rintro e w' ⟨rfl, rfl⟩)
     | (go_at_call_of 192 (Value.int IntKind.i64 (d : Int)); refine (hbd _).mono ?_; rintro e w' ⟨rfl, rfl⟩)
     | (go_at_call 195; refine (hil _).mono ?_; rintro e w' ⟨rfl, rfl⟩)
     | (go_at_call 205; refine (hva _).mono ?_; rintro e w' ⟨rfl, rfl⟩))
    refine bodyPost_ret (v := .agg #[.int .i64 1, .int .i64 a, .int .i64 j, .string ⟨#[]⟩, .int .i64 0]) (by simp [results, Tryz.results196, go_sem]) rfl ⟨?_, (Below.refl _ _).alloc (Nat.le_refl _) _⟩
    rw [HF.out, HJ'.out]; rfl
   ·have b0 : ((n : Int) == 0) = false := by rw [beq_eq_false_iff_ne]; omega
    have c1 : 1 ≤ n := by omega
    have hh := HHEAD.out (by omega)
    by_cases cm : n ≤ most
    ·have hva := fun w => valueOf_any s d n j w hs HJ'.out hjs (by omega) HDIG.out
     by_cases c2 : n = 1
     ·have HF : Hid (numTN (s.data.toList.drop d) most kind a d n = ⟨kind, a, d + n, [], valueL ((s.data.toList.drop d).take n)⟩) := by
       have : numeralB ((s.data.toList.drop d).take n) most = true := by rw [HNUM.out]; simp [c2]; omega
       unfold numTN; rw [this]; rfl
      have c2' : n < 2 := by omega
      clear c2 hh c0
      go_wp2_with (first
       | (go_at_call_of 192 (Value.int IntKind.i64 (j : Int)); refine (hbk _).mono ?_; rintro e w' ⟨rfl, rfl⟩)
       | (go_at_call_of 192 (Value.int IntKind.i64 (d : Int)); refine (hbd _).mono ?_; rintro e w' ⟨rfl, rfl⟩)
       | (go_at_call 195; refine (hil _).mono ?_; rintro e w' ⟨rfl, rfl⟩)
       | (go_at_call 205; refine (hva _).mono ?_; rintro e w' ⟨rfl, rfl⟩))
      refine bodyPost_ret (v := .agg #[.int .i64 kind, .int .i64 a, .int .i64 j, .string ⟨#[]⟩, .int .i64 (valueL ((s.data.toList.drop d).take n))]) (by simp [results, Tryz.results196, go_sem]) rfl ⟨?_, (Below.refl _ _).alloc (Nat.le_refl _) _⟩
      rw [HF.out, HJ'.out]; rfl
     ·cases e0 : (bA s d == 48) with
      | true =>
       have b48 : (((bA s d).toNat : Int) == 48) = true := by rw [HE48.out]; exact e0
       have HF : Hid (numTN (s.data.toList.drop d) most kind a d n = ⟨1, a, d + n, [], 0⟩) := by
        have h48 : bA s d = 48 := by simpa using e0
        have : numeralB ((s.data.toList.drop d).take n) most = false := by rw [HNUM.out, hh, h48]; simp [c2]
        unfold numTN; rw [this]; rfl
       have c2' : 1 < n := by omega
       clear c2 hh c0 e0
       go_wp2_with (first
        | (go_at_call_of 192 (Value.int IntKind.i64 (j : Int)); refine (hbk _).mono ?_; rintro e w' ⟨rfl, rfl⟩)
        | (go_at_call_of 192 (Value.int IntKind.i64 (d : Int)); refine (hbd _).mono ?_; rintro e w' ⟨rfl, rfl⟩)
        | (go_at_call 195; refine (hil _).mono ?_; rintro e w' ⟨rfl, rfl⟩)
        | (go_at_call 205; refine (hva _).mono ?_; rintro e w' ⟨rfl, rfl⟩))
       refine bodyPost_ret (v := .agg #[.int .i64 1, .int .i64 a, .int .i64 j, .string ⟨#[]⟩, .int .i64 0]) (by simp [results, Tryz.results196, go_sem]) rfl ⟨?_, (Below.refl _ _).alloc (Nat.le_refl _) _⟩
       rw [HF.out, HJ'.out]; rfl
      | false =>
       have b48 : (((bA s d).toNat : Int) == 48) = false := by rw [HE48.out]; exact e0
       have HF : Hid (numTN (s.data.toList.drop d) most kind a d n = ⟨kind, a, d + n, [], valueL ((s.data.toList.drop d).take n)⟩) := by
        have h48 : bA s d ≠ 48 := by simpa using e0
        have : numeralB ((s.data.toList.drop d).take n) most = true := by rw [HNUM.out, hh]; simp [h48, cm]; omega
        unfold numTN; rw [this]; rfl
       have c2' : 1 < n := by omega
       clear c2 hh c0 e0
       go_wp2_with (first
        | (go_at_call_of 192 (Value.int IntKind.i64 (j : Int)); refine (hbk _).mono ?_; rintro e w' ⟨rfl, rfl⟩)
        | (go_at_call_of 192 (Value.int IntKind.i64 (d : Int)); refine (hbd _).mono ?_; rintro e w' ⟨rfl, rfl⟩)
        | (go_at_call 195; refine (hil _).mono ?_; rintro e w' ⟨rfl, rfl⟩)
        | (go_at_call 205; refine (hva _).mono ?_; rintro e w' ⟨rfl, rfl⟩))
       refine bodyPost_ret (v := .agg #[.int .i64 kind, .int .i64 a, .int .i64 j, .string ⟨#[]⟩, .int .i64 (valueL ((s.data.toList.drop d).take n))]) (by simp [results, Tryz.results196, go_sem]) rfl ⟨?_, (Below.refl _ _).alloc (Nat.le_refl _) _⟩
       rw [HF.out, HJ'.out]; rfl
    ·have HF : Hid (numTN (s.data.toList.drop d) most kind a d n = ⟨1, a, d + n, [], 0⟩) := by
      have : numeralB ((s.data.toList.drop d).take n) most = false := by rw [HNUM.out]; simp [cm]
      unfold numTN; rw [this]; rfl
     have c2' : 1 < n := by omega
     clear hh c0
     go_wp2_with (first
      | (go_at_call_of 192 (Value.int IntKind.i64 (j : Int)); refine (hbk _).mono ?_; rintro e w' ⟨rfl, rfl⟩)
      | (go_at_call_of 192 (Value.int IntKind.i64 (d : Int)); refine (hbd _).mono ?_; rintro e w' ⟨rfl, rfl⟩)
      | (go_at_call 195; refine (hil _).mono ?_; rintro e w' ⟨rfl, rfl⟩)
      | (go_at_call 205; refine (hva _).mono ?_; rintro e w' ⟨rfl, rfl⟩))
     refine bodyPost_ret (v := .agg #[.int .i64 1, .int .i64 a, .int .i64 j, .string ⟨#[]⟩, .int .i64 0]) (by simp [results, Tryz.results196, go_sem]) rfl ⟨?_, (Below.refl _ _).alloc (Nat.le_refl _) _⟩
     rw [HF.out, HJ'.out]; rfl
end Go.Proofs.YtpicaknklgccoaaGreatDoor
