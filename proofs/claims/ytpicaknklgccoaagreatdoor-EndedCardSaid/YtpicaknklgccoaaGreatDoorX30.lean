import Derived.Test.YtpicaknklgccoaaGreatDoorX29
import Derived.BigRegion
import Derived.Deep.RegionHeld3
import Derived.Test.YtpicaknklgccoaaGreatDoorX25
import Derived.Test.YtpicaknklgccoaaGreatDoorX14
import Derived.Test.YtpicaknklgccoaaGreatDoorX16
import Derived.Test.YtpicaknklgccoaaGreatDoorX12
namespace Go.Proofs.YtpicaknklgccoaaGreatDoor
open Go.RowKit
open Go.Lib (decDigits)
def Made2 (w0 : World) (yb fuel : Nat) (k : Kw) (A B : Ty) : Prop :=
 ∀ (b c n : Nat) (ks : List Nat) (vals : List Vl) (ps : List Nat) (st : ESt) (nv : Value) (w : World) (x y : Vl) (px py : Nat), KAtZ w0 b c k n ks → WkIn w0 w yb vals ps fuel st nv → SOkZ fuel st → x.has A → y.has B → KVal w x px → KVal w y py →
  Calls Tryz.prog 86 #[.pointer (some ⟨yb, 0, none⟩), .pointer (some ⟨b, 0, none⟩), .pointer (some ⟨px, 0, none⟩), .pointer (some ⟨py, 0, none⟩)] w fun e w' => ∃ r, e = .returned (.pointer (some ⟨r, 0, none⟩)) ∧ FrO w w' yb nv nv ∧ WkIn w0 w' yb vals ps fuel (madeV k [x, y] st).2 nv ∧ KVal w' (madeV k [x, y] st).1 r
def Made1 (w0 : World) (yb fuel : Nat) (k : Kw) (A : Ty) : Prop :=
 ∀ (b c n : Nat) (ks : List Nat) (vals : List Vl) (ps : List Nat) (st : ESt) (nv : Value) (w : World) (x : Vl) (px : Nat), KAtZ w0 b c k n ks → WkIn w0 w yb vals ps fuel st nv → x.has A → KVal w x px →
  Calls Tryz.prog 86 #[.pointer (some ⟨yb, 0, none⟩), .pointer (some ⟨b, 0, none⟩), .pointer (some ⟨px, 0, none⟩), .pointer none] w fun e w' => ∃ r, e = .returned (.pointer (some ⟨r, 0, none⟩)) ∧ FrO w w' yb nv nv ∧ WkIn w0 w' yb vals ps fuel (madeV k [x] st).2 nv ∧ KVal w' (madeV k [x] st).1 r
theorem below_dZ {W w : World} {b : Nat} (h : Below b W w) : Below b W w.drew := h.trans ⟨rfl, rfl, rfl, Nat.le_refl _, fun _ _ => rfl⟩
set_option maxRecDepth 100000 in
set_option maxHeartbeats 1000000 in
theorem madeZ_pair {w0 : World} (yb fuel : Nat) (A B : Ty) : Made2 w0 yb fuel .pair A B := by
 intro b c n ks vals ps st nv w x y px py hka hin hs _ _ hkx hky
 have hne : b ≠ yb := by have := hin.ob.hyb; have := hka.hb; omega
 have hkw := hka.on hin.ob.b0
 have x0 := hkw.c0
 have xl1 := hkw.hb
 have y3 : w.cell? ⟨yb, 3, none⟩ = some (.int .i64 st.cells) := by rw [blk_cell hin.ob.y]; rfl
 have f3 : w.frozen? ⟨yb, 3, none⟩ = false := blk_free hin.ob.y 3
 have hyl := blk_lt hin.ob.y
 have q0 : ((bs Kw.pair.bytes).toList == [112, 97, 105, 114]) = true := by rw [bs_beq0]; decide
 have hcs := hs.c
 have hss := hs.s
 have hsf := hs.f
 have hset := hin.set 3 (.int .i64 ((st.cells : Int) + 1)) (st' := { st with cells := st.cells + 1 }) (by simp [wkCells])
 have hfr := FrO.set1 w yb nv 3 (.int .i64 ((st.cells : Int) + 1))
 have hkx2 := hkx.fr hin.ob hfr
 have hky2 := hky.fr hin.ob hfr
 have hsz : (w.setCell ⟨yb, 3, none⟩ (.int .i64 ((st.cells : Int) + 1))).heap.size = w.heap.size := by simp [World.setCell]
 have hm : madeV .pair [x, y] st = (.p x y, { st with cells := st.cells + 1 }) := rfl
 rw [hm]
 obtain ⟨W, hW⟩ : ∃ W, W = w.setCell ⟨yb, 3, none⟩ (.int .i64 ((st.cells : Int) + 1)) := ⟨_, rfl⟩
 rw [← hW] at hset hfr hkx2 hky2 hsz
 have HSET : Hid _ := hset
 have HFR : Hid _ := hfr
 have HX : Hid _ := hkx2
 have HY : Hid _ := hky2
 have HSZ : Hid _ := hsz
 have HW : Hid _ := hW
 clear hka hkw hin hs hkx hky hset hfr hkx2 hky2 hsz hm hW
 go_enter Tryz.func86, Tryz.ntmps86
 go_wp2
 go_ret
 rw [← HW.out]
 have hbn := below_alZ (Below.refl _ W) (.cells (kvV 0 (.pointer (some ⟨px, 0, none⟩)) (.pointer (some ⟨py, 0, none⟩))) 141 (0, 0))
 refine ⟨w.heap.size, rfl, HFR.out.trans (FrO.below hbn _ _), HSET.out.grow hbn, px, py, ?_, HX.out.below hbn, HY.out.below hbn⟩
 rw [← HSZ.out]; exact blk_new _ _
set_option maxRecDepth 100000 in
set_option maxHeartbeats 1000000 in
theorem madeZ_fst {w0 : World} (yb fuel : Nat) (r0 : Nat) (A B : Ty) : Made1 w0 yb fuel .fst (.p r0 A B) := by
 intro b c n ks vals ps st nv w x px hka hin hx hkx
 obtain ⟨u, v, rfl⟩ : ∃ u v, x = .p u v := by
  cases x with
  | n k => exact hx.elim
  | p u v => exact ⟨u, v, rfl⟩
 obtain ⟨pu, pv, h1, h2, h3⟩ := hkx
 have hkw := hka.on hin.ob.b0
 have x0 := hkw.c0
 have xl1 := hkw.hb
 have p1 : w.cell? ⟨px, 1, none⟩ = some (.pointer (some ⟨pu, 0, none⟩)) := by rw [blk_cell h1]; rfl
 have pl := blk_lt h1
 have q0 : ((bs Kw.fst.bytes).toList == [112, 97, 105, 114]) = false := by rw [bs_beq0]; decide
 have q1 : ((bs Kw.fst.bytes).toList == [102, 115, 116]) = true := by rw [bs_beq0]; decide
 have HIN : Hid _ := hin
 have HU : Hid _ := h2
 have hm : madeV .fst [.p u v] st = (u, st) := rfl
 rw [hm]
 clear hka hkw hin hx h1 h2 h3 hm
 go_enter Tryz.func86, Tryz.ntmps86
 go_wp2
 go_ret
 exact ⟨pu, rfl, FrO.refl _ _ _, HIN.out, HU.out⟩
set_option maxRecDepth 100000 in
set_option maxHeartbeats 1000000 in
theorem madeZ_snd {w0 : World} (yb fuel : Nat) (r0 : Nat) (A B : Ty) : Made1 w0 yb fuel .snd (.p r0 A B) := by
 intro b c n ks vals ps st nv w x px hka hin hx hkx
 obtain ⟨u, v, rfl⟩ : ∃ u v, x = .p u v := by
  cases x with
  | n k => exact hx.elim
  | p u v => exact ⟨u, v, rfl⟩
 obtain ⟨pu, pv, h1, h2, h3⟩ := hkx
 have hkw := hka.on hin.ob.b0
 have x0 := hkw.c0
 have xl1 := hkw.hb
 have p2 : w.cell? ⟨px, 2, none⟩ = some (.pointer (some ⟨pv, 0, none⟩)) := by rw [blk_cell h1]; rfl
 have pl := blk_lt h1
 have q0 : ((bs Kw.snd.bytes).toList == [112, 97, 105, 114]) = false := by rw [bs_beq0]; decide
 have q1 : ((bs Kw.snd.bytes).toList == [102, 115, 116]) = false := by rw [bs_beq0]; decide
 have q2 : ((bs Kw.snd.bytes).toList == [115, 110, 100]) = true := by rw [bs_beq0]; decide
 have HIN : Hid _ := hin
 have HU : Hid _ := h3
 have hm : madeV .snd [.p u v] st = (v, st) := rfl
 rw [hm]
 clear hka hkw hin hx h1 h2 h3 hm
 go_enter Tryz.func86, Tryz.ntmps86
 go_wp2
 go_ret
 exact ⟨pv, rfl, FrO.refl _ _ _, HIN.out, HU.out⟩
set_option maxRecDepth 100000 in
set_option maxHeartbeats 1000000 in
theorem madeZ_add {w0 : World} (yb fuel : Nat) : Made2 w0 yb fuel .add .n .n := by
 intro b c n ks vals ps st nv w x y px py hka hin _ hx hy hkx hky
 obtain ⟨i, rfl, hi⟩ := has_num hx
 obtain ⟨j, rfl, hj⟩ := has_num hy
 obtain ⟨pl, p0⟩ := hkx.num
 obtain ⟨pl', p0'⟩ := hky.num
 simp only [Vl.num] at p0 p0'
 have hkw := hka.on hin.ob.b0
 have x0 := hkw.c0
 have xl1 := hkw.hb
 have q0 : ((bs Kw.add.bytes).toList == [112, 97, 105, 114]) = false := by rw [bs_beq0]; decide
 have q1 : ((bs Kw.add.bytes).toList == [102, 115, 116]) = false := by rw [bs_beq0]; decide
 have q2 : ((bs Kw.add.bytes).toList == [115, 110, 100]) = false := by rw [bs_beq0]; decide
 have q3 : ((bs Kw.add.bytes).toList == [97, 100, 100]) = true := by rw [bs_beq0]; decide
 have em : ((i : Int) + (j : Int)) % 10000 = (((i + j) % 10000 : Nat) : Int) := by omega
 have hm : madeV .add [.n i, .n j] st = (.n ((i + j) % 10000), st) := rfl
 rw [hm]
 have HIN : Hid _ := hin
 clear hka hkw hin hx hy hkx hky hm
 generalize (i + j) % 10000 = s at *
 go_enter Tryz.func86, Tryz.ntmps86
 go_wp2
 go_region
 all_goals
  go_wp2
  go_ret
  have hbn := below_dZ (below_alZ (Below.refl _ w) (.cells (kvV s (.pointer none) (.pointer none)) 141 (0, 0)))
  exact ⟨w.heap.size, rfl, FrO.below hbn _ _, HIN.out.grow hbn, blk_new w _⟩
set_option maxRecDepth 100000 in
set_option maxHeartbeats 1000000 in
theorem madeZ_sub {w0 : World} (yb fuel : Nat) : Made2 w0 yb fuel .sub .n .n := by
 intro b c n ks vals ps st nv w x y px py hka hin _ hx hy hkx hky
 obtain ⟨i, rfl, hi⟩ := has_num hx
 obtain ⟨j, rfl, hj⟩ := has_num hy
 obtain ⟨pl, p0⟩ := hkx.num
 obtain ⟨pl', p0'⟩ := hky.num
 simp only [Vl.num] at p0 p0'
 have hkw := hka.on hin.ob.b0
 have x0 := hkw.c0
 have xl1 := hkw.hb
 have q0 : ((bs Kw.sub.bytes).toList == [112, 97, 105, 114]) = false := by rw [bs_beq0]; decide
 have q1 : ((bs Kw.sub.bytes).toList == [102, 115, 116]) = false := by rw [bs_beq0]; decide
 have q2 : ((bs Kw.sub.bytes).toList == [115, 110, 100]) = false := by rw [bs_beq0]; decide
 have q3 : ((bs Kw.sub.bytes).toList == [97, 100, 100]) = false := by rw [bs_beq0]; decide
 have q4 : ((bs Kw.sub.bytes).toList == [115, 117, 98]) = true := by rw [bs_beq0]; decide
 have em : ((i : Int) + 10000 - (j : Int)) % 10000 = (((i + 10000 - j) % 10000 : Nat) : Int) := by omega
 have hm : madeV .sub [.n i, .n j] st = (.n ((i + 10000 - j) % 10000), st) := rfl
 rw [hm]
 have HIN : Hid _ := hin
 clear hka hkw hin hx hy hkx hky hm
 generalize (i + 10000 - j) % 10000 = s at *
 go_enter Tryz.func86, Tryz.ntmps86
 go_wp2
 go_region
 all_goals
  go_wp2
  go_ret
  have hbn := below_dZ (below_alZ (Below.refl _ w) (.cells (kvV s (.pointer none) (.pointer none)) 141 (0, 0)))
  exact ⟨w.heap.size, rfl, FrO.below hbn _ _, HIN.out.grow hbn, blk_new w _⟩
set_option maxRecDepth 100000 in
set_option maxHeartbeats 1000000 in
theorem madeZ_less {w0 : World} (yb fuel : Nat) : Made2 w0 yb fuel .less .n .n := by
 intro b c n ks vals ps st nv w x y px py hka hin _ hx hy hkx hky
 obtain ⟨i, rfl, hi⟩ := has_num hx
 obtain ⟨j, rfl, hj⟩ := has_num hy
 obtain ⟨pl, p0⟩ := hkx.num
 obtain ⟨pl', p0'⟩ := hky.num
 simp only [Vl.num] at p0 p0'
 have hkw := hka.on hin.ob.b0
 have x0 := hkw.c0
 have xl1 := hkw.hb
 have q0 : ((bs Kw.less.bytes).toList == [112, 97, 105, 114]) = false := by rw [bs_beq0]; decide
 have q1 : ((bs Kw.less.bytes).toList == [102, 115, 116]) = false := by rw [bs_beq0]; decide
 have q2 : ((bs Kw.less.bytes).toList == [115, 110, 100]) = false := by rw [bs_beq0]; decide
 have q3 : ((bs Kw.less.bytes).toList == [97, 100, 100]) = false := by rw [bs_beq0]; decide
 have q4 : ((bs Kw.less.bytes).toList == [115, 117, 98]) = false := by rw [bs_beq0]; decide
 have hm : madeV .less [.n i, .n j] st = (.n (if i < j then 1 else 0), st) := rfl
 rw [hm]
 have HIN : Hid _ := hin
 clear hka hkw hin hx hy hkx hky hm
 by_cases hij : i < j
 ·rw [if_pos hij]
  go_enter Tryz.func86, Tryz.ntmps86
  go_wp2
  go_quiet (fail)
  go_wp2
  go_ret
  have hbn := below_alZ (below_drewO w nq) (.cells (kvV 1 (.pointer none) (.pointer none)) 141 (0, 0))
  exact ⟨w.heap.size, rfl, FrO.below hbn _ _, HIN.out.grow hbn, blk_new (w.drewN nq) _⟩
 ·rw [if_neg hij]
  go_enter Tryz.func86, Tryz.ntmps86
  go_wp2
  go_quiet (fail)
  go_wp2
  go_ret
  have hbn := below_alZ (below_drewO w nq) (.cells (kvV 0 (.pointer none) (.pointer none)) 141 (0, 0))
  exact ⟨w.heap.size, rfl, FrO.below hbn _ _, HIN.out.grow hbn, blk_new (w.drewN nq) _⟩
theorem FrO.setNew {w w' : World} {yb q o : Nat} {x nv nv' : Value} (h : FrO w w' yb nv nv') (hq : w.heap.size ≤ q) : FrO w (w'.setCell ⟨q, o, none⟩ x) yb nv nv' :=
 ⟨by have := h.size; simpa [World.setCell] using this, fun k hk hy hn => by rw [blk_other _ _ (by simp only; omega)]; exact h.blk k hk hy hn, h.n⟩
theorem KVal.setElse {w : World} {q o : Nat} {x : Value} {arr : Array Value} (hq : w.heap[q]? = some (.cells arr 142 (0, 0))) {v : Vl} {p : Nat} (h : KVal w v p) : KVal (w.setCell ⟨q, o, none⟩ x) v p :=
 h.keep (fun k arr' hk => by
  rw [blk_other _ _ (by
   simp only
   rintro rfl
   rw [hq] at hk
   simp only [Option.some.injEq, Obj.cells.injEq] at hk
   exact absurd hk.2.1 (by decide))]
  exact hk)
theorem WkIn.setElse {w0 w : World} {yb : Nat} {vals : List Vl} {ps : List Nat} {fuel : Nat} {st : ESt} {nv : Value} {q o : Nat} {x : Value} {arr : Array Value} (h : WkIn w0 w yb vals ps fuel st nv) (hq : w.heap[q]? = some (.cells arr 142 (0, 0))) (h0 : w0.heap.size ≤ q) : WkIn w0 (w.setCell ⟨q, o, none⟩ x) yb vals ps fuel st nv := by
 have hne : ∀ (k : Nat) (arr' : Array Value) (U : TypeId) (fz : Nat × Nat), U ≠ 142 → w.heap[k]? = some (.cells arr' U fz) → (w.setCell ⟨q, o, none⟩ x).heap[k]? = w.heap[k]? := by
  intro k arr' U fz hU hk
  refine blk_other _ _ ?_
  simp only
  rintro rfl
  rw [hq] at hk
  simp only [Option.some.injEq, Obj.cells.injEq] at hk
  exact hU hk.2.1.symm
 refine ⟨⟨h.ob.b0.setCell (p := ⟨q, o, none⟩) h0 _, h.ob.hyb, ?_, owns_blk h.ob.n (fun k hk => ?_), h.ob.ny⟩, h.len, fun i v p h1 h2 => (h.v i v p h1 h2).setElse hq⟩
 ·rw [hne yb _ _ _ (by decide) h.ob.y]; exact h.ob.y
 ·rcases h.ob.n.2 with ⟨hv, _⟩ | ⟨g, cap, cur, hv, _, hg, _⟩
  ·rw [hv] at hk; cases hk
  ·rw [hv] at hk
   simp only [Value.ownBlock, Option.some.injEq] at hk
   subst hk
   exact hne _ _ _ _ (by decide) hg
def two2 (a b : Value) : Obj := .cells #[a, b] 142 (0, 0)
set_option maxRecDepth 100000 in
set_option maxHeartbeats 4000000 in
theorem kgo_two {w0 : World} (yb fuel : Nat) (vs : List Nat) (k : Kw) (n : Nat) (a d : KE) (ta td : Nat) (hk1 : k ≠ .let_) (hk2 : k ≠ .if_) (hk3 : k ≠ .loop) (hta : KT vs a ta) (htd : KT vs d td) (hvl : vs.length ≤ 100) (iha : KGo w0 yb fuel a vs) (ihd : KGo w0 yb fuel d vs) (hmd : Made2 w0 yb fuel k (tyZ ta) (tyZ td)) : KGoN w0 yb fuel (.n2 k n a d) vs := by
 intro b vals ps st nv w hx hin henv hlen hs he hq
 obtain ⟨c, pa, pd, hka, hT1, hT2⟩ := katz2 hx
 have hne : b ≠ yb := by have := hin.ob.hyb; have := hka.hb; omega
 have hgy : c ≠ yb := by have := hin.ob.hyb; have := hka.hg; omega
 have hev : ev fuel ((KE.n2 k n a d).pt []) (envV vals) st = partsV fuel k [a.pt [], d.pt []] (envV vals) { st with steps := st.steps + 1 } := by
  simp only [KE.pt]
  rw [ev_parts fuel _ k _ _ _ (envV vals) st hk1 hk2 hk3, begun_goZ he hq]
 rw [hev, partsV2]
 have hs' := hs.step hq
 have hr1 := kev_res (fuel := fuel) hta hvl vals { st with steps := st.steps + 1 } (fun _ => henv)
 have h1 := fun nv2 w2 (hin2 : WkIn w0 w2 yb vals ps fuel { st with steps := st.steps + 1 } nv2) => iha pa vals ps { st with steps := st.steps + 1 } nv2 w2 hT1 hin2 (fun _ => henv) hlen hs'
 have hs2 := hs'.on (a.pt []) (envV vals)
 generalize ev fuel (a.pt []) (envV vals) { st with steps := st.steps + 1 } = r1 at *
 have hr2 := kev_res (fuel := fuel) htd hvl vals r1.2 (fun _ => henv)
 have h2 := fun nv2 w2 (hin2 : WkIn w0 w2 yb vals ps fuel r1.2 nv2) => ihd pd vals ps r1.2 nv2 w2 hT2 hin2 (fun _ => henv) hlen hs2
 have hs3 := hs2.on (d.pt []) (envV vals)
 generalize ev fuel (d.pt []) (envV vals) r1.2 = r2 at *
 obtain ⟨R, hR⟩ : ∃ R, R = if r2.2.e ≠ 0 then (Vl.n 0, r2.2) else madeV k [r1.1, r2.1] r2.2 := ⟨_, rfl⟩
 rw [← hR]
 have HRN : Hid (r2.2.e = 0 → R = madeV k [r1.1, r2.1] r2.2) := fun h => by rw [hR, if_neg (fun g => g h)]
 have HRE : Hid (r2.2.e ≠ 0 → R = (Vl.n 0, r2.2)) := fun h => by rw [hR, if_pos h]
 have hm : ∀ (nv2 : Value) (w2 : World) (p1 p2 : Nat), r2.2.e = 0 → WkIn w0 w2 yb vals ps fuel r2.2 nv2 → KVal w2 r1.1 p1 → KVal w2 r2.1 p2 →
   Calls Tryz.prog 86 #[.pointer (some ⟨yb, 0, none⟩), .pointer (some ⟨b, 0, none⟩), .pointer (some ⟨p1, 0, none⟩), .pointer (some ⟨p2, 0, none⟩)] w2 fun e w' => ∃ r, e = .returned (.pointer (some ⟨r, 0, none⟩)) ∧ FrO w2 w' yb nv2 nv2 ∧ WkIn w0 w' yb vals ps fuel (madeV k [r1.1, r2.1] r2.2).2 nv2 ∧ KVal w' (madeV k [r1.1, r2.1] r2.2).1 r := by
  intro nv2 w2 p1 p2 e hin2 hv1 hv2
  have a2 := hr2.1 e
  exact hmd b c n [pa, pd] vals ps r2.2 nv2 w2 r1.1 r2.1 p1 p2 hka hin2 hs3 (hr1.1 a2.1).2 a2.2 hv1 hv2
 have hkw := hka.on hin.ob.b0
 have x0 := hkw.c0
 have xl1 := hkw.hb
 have xl2 := hkw.hg
 have q0 : ((bs k.bytes).toList == []) = false := by rw [bs_beq0]; cases k <;> decide
 have q1 : ((bs k.bytes).toList == [120]) = false := by rw [bs_beq0]; cases k <;> decide
 have q2 : ((bs k.bytes).toList == [108, 101, 116]) = false := by rw [bs_beq0]; cases k <;> first | decide | exact absurd rfl hk1
 have q3 : ((bs k.bytes).toList == [105, 102]) = false := by rw [bs_beq0]; cases k <;> first | decide | exact absurd rfl hk2
 have q4 : ((bs k.bytes).toList == [108, 111, 111, 112]) = false := by rw [bs_beq0]; cases k <;> first | decide | exact absurd rfl hk3
 have y1 : w.cell? ⟨yb, 1, none⟩ = some (.int .i64 fuel) := by rw [blk_cell hin.ob.y]; rfl
 have y2 : w.cell? ⟨yb, 2, none⟩ = some (.int .i64 st.steps) := by rw [blk_cell hin.ob.y]; rfl
 have y4 : w.cell? ⟨yb, 4, none⟩ = some (.bool false) := by rw [blk_cell hin.ob.y]; simp [wkCells, he]
 have f2 : w.frozen? ⟨yb, 2, none⟩ = false := blk_free hin.ob.y 2
 have hyl := blk_lt hin.ob.y
 have q9 : ((st.steps : Int) == (fuel : Int)) = false := by rw [beq_eq_false_iff_ne]; omega
 have hss := hs.s
 have hsf := hs.f
 have HK : Hid _ := hka
 have HBG : Hid _ := fun m => hin.begin m
 have HW0 : Hid _ := hin.ob.b0.size
 have H1 : Hid _ := h1
 have H2 : Hid _ := h2
 have HM : Hid _ := hm
 clear hka hkw hx hin henv hs he hev hq hT1 hT2 iha ihd hs' hs2 hs3 hr1 hr2 h1 h2 hm hlen hmd hR hta htd
 go_enter Tryz.func51, Tryz.ntmps51
 go_wp2_with fail
 go_quiet (fail)
 go_wp2_with fail
 have HBQ : Hid _ := HBG.out nq
 have HNQ : Hid _ := blk_newS w nq ⟨yb, 2, none⟩ (.int .i64 ((st.steps : Int) + 1)) arr2
 clear HBG x0 y1 y2 y4 f2
 generalize hQ : w.heap.size = Q at *
 go_loopw [11] (fun i wr => ∃ (j : Nat) (nv4 : Value), i = .int .i64 j ∧ FrO w wr yb nv nv4 ∧ ((j = 0 ∧ WkIn w0 wr yb vals ps fuel { st with steps := st.steps + 1 } nv4 ∧ wr.heap[Q]? = some (two2 (.pointer none) (.pointer none))) ∨ (j = 1 ∧ ∃ p1 : Nat, WkIn w0 wr yb vals ps fuel r1.2 nv4 ∧ wr.heap[Q]? = some (two2 (.pointer (some ⟨p1, 0, none⟩)) (.pointer none)) ∧ KVal wr r1.1 p1) ∨ (j = 2 ∧ ∃ p1 p2 : Nat, WkIn w0 wr yb vals ps fuel r2.2 nv4 ∧ wr.heap[Q]? = some (two2 (.pointer (some ⟨p1, 0, none⟩)) (.pointer (some ⟨p2, 0, none⟩))) ∧ KVal wr r1.1 p1 ∧ KVal wr r2.1 p2))) (fun i _ => 2 - (intOf i).toNat)
 case atStart => exact ⟨0, nv, rfl, HBQ.out.2, Or.inl ⟨rfl, HBQ.out.1, HNQ.out⟩⟩
 case round =>
  obtain ⟨j, nv4, rfl, hfr, hP⟩ := hrel
  have HF : Hid _ := hfr
  rcases hP with ⟨rfl, hin4, hQb⟩ | ⟨rfl, p1, hin4, hQb, hv1⟩ | ⟨rfl, p1, p2, hin4, hQb, hv1, hv2⟩
  ·have hkw := HK.out.on hin4.ob.b0
   have u2 := hkw.c2
   have uk := hkw.ck 0 pa rfl
   have ul1 := hkw.hb
   have ul2 := hkw.hg
   have HI : Hid _ := hin4
   have HQB : Hid _ := hQb
   have HC : Hid _ := H1.out nv4 wr hin4
   clear hfr hin4 hQb hkw
   go_wp2_with fail
   refine Calls.mono HC.out ?_
   rintro _ w2 ⟨r, nv5, rfl, hf5, hi5, hv5⟩
   have hQ2 : w2.heap[Q]? = some (two2 (.pointer none) (.pointer none)) := HI.out.ob.other hf5 (by decide) (by decide) HQB.out
   have ql := blk_lt hQ2
   have qf : w2.frozen? ⟨Q, 0, none⟩ = false := blk_free hQ2 0
   have qc : w2.cell? ⟨Q, 0, none⟩ = some (.pointer none) := by rw [blk_cell hQ2]; rfl
   have hqw0 : w0.heap.size ≤ Q := by have := HW0.out; omega
   have HF5 : Hid _ := (HF.out.trans hf5).setNew (q := Q) (o := 0) (x := .pointer (some ⟨r, 0, none⟩)) (by omega)
   have HI5 : Hid _ := hi5.setElse (o := 0) (x := .pointer (some ⟨r, 0, none⟩)) hQ2 hqw0
   have HV5 : Hid _ := hv5.setElse (o := 0) (x := .pointer (some ⟨r, 0, none⟩)) hQ2
   have HQ5 : Hid ((w2.setCell ⟨Q, 0, none⟩ (.pointer (some ⟨r, 0, none⟩))).heap[Q]? = some (two2 (.pointer (some ⟨r, 0, none⟩)) (.pointer none))) := (blk_set hQ2 0 _).trans rfl
   clear hf5 hi5 hv5 hQ2 HC HI HQB
   go_wp2
   go_roundw
   case rel => exact ⟨1, nv5, by first | rfl | go_num, HF5.out, Or.inr (Or.inl ⟨rfl, r, HI5.out, HQ5.out, HV5.out⟩)⟩
   case measure => simp [intOf]
  ·have hkw := HK.out.on hin4.ob.b0
   have u2 := hkw.c2
   have uk := hkw.ck 1 pd rfl
   have ul1 := hkw.hb
   have ul2 := hkw.hg
   have HI : Hid _ := hin4
   have HQB : Hid _ := hQb
   have HV1 : Hid _ := hv1
   have HC : Hid _ := H2.out nv4 wr hin4
   clear hfr hin4 hQb hkw hv1
   go_wp2_with fail
   refine Calls.mono HC.out ?_
   rintro _ w2 ⟨r, nv5, rfl, hf5, hi5, hv5⟩
   have hQ2 : w2.heap[Q]? = some (two2 (.pointer (some ⟨p1, 0, none⟩)) (.pointer none)) := HI.out.ob.other hf5 (by decide) (by decide) HQB.out
   have ql := blk_lt hQ2
   have qf : w2.frozen? ⟨Q, 1, none⟩ = false := blk_free hQ2 1
   have qc : w2.cell? ⟨Q, 1, none⟩ = some (.pointer none) := by rw [blk_cell hQ2]; rfl
   have hqw0 : w0.heap.size ≤ Q := by have := HW0.out; omega
   have HF5 : Hid _ := (HF.out.trans hf5).setNew (q := Q) (o := 1) (x := .pointer (some ⟨r, 0, none⟩)) (by omega)
   have HI5 : Hid _ := hi5.setElse (o := 1) (x := .pointer (some ⟨r, 0, none⟩)) hQ2 hqw0
   have HV5 : Hid _ := hv5.setElse (o := 1) (x := .pointer (some ⟨r, 0, none⟩)) hQ2
   have HV6 : Hid _ := (HV1.out.fr HI.out.ob hf5).setElse (o := 1) (x := .pointer (some ⟨r, 0, none⟩)) hQ2
   have HQ5 : Hid ((w2.setCell ⟨Q, 1, none⟩ (.pointer (some ⟨r, 0, none⟩))).heap[Q]? = some (two2 (.pointer (some ⟨p1, 0, none⟩)) (.pointer (some ⟨r, 0, none⟩)))) := (blk_set hQ2 1 _).trans rfl
   clear hf5 hi5 hv5 hQ2 HC HI HQB HV1
   go_wp2
   go_roundw
   case rel => exact ⟨2, nv5, by first | rfl | go_num, HF5.out, Or.inr (Or.inr ⟨rfl, p1, r, HI5.out, HQ5.out, HV6.out, HV5.out⟩)⟩
   case measure => simp [intOf]
  ·have hkw := HK.out.on hin4.ob.b0
   have u2 := hkw.c2
   have ul1 := hkw.hb
   have ul2 := hkw.hg
   have e4 : wr.cell? ⟨yb, 4, none⟩ = some (.bool (decide (r2.2.e ≠ 0))) := by rw [blk_cell hin4.ob.y]; rfl
   have hylr := blk_lt hin4.ob.y
   have qa : wr.cell? ⟨Q, 0, none⟩ = some (.pointer (some ⟨p1, 0, none⟩)) := by rw [blk_cell hQb]; rfl
   have qb : wr.cell? ⟨Q, 1, none⟩ = some (.pointer (some ⟨p2, 0, none⟩)) := by rw [blk_cell hQb]; rfl
   have ql := blk_lt hQb
   have HI : Hid _ := hin4
   by_cases he2 : r2.2.e = 0
   ·rw [show decide (r2.2.e ≠ 0) = false by simp [he2]] at e4
    have HC : Hid _ := HM.out nv4 wr p1 p2 he2 hin4 hv1 hv2
    have HR : Hid _ := HRN.out he2
    clear hfr hin4 hQb hkw hv1 hv2 he2
    go_wp2_with fail
    refine Calls.mono HC.out ?_
    rintro _ w2 ⟨r, rfl, hf5, hi5, hv5⟩
    have HF5 : Hid _ := HF.out.trans hf5
    have HI5 : Hid _ := hi5
    have HV5 : Hid _ := hv5
    clear hf5 hi5 hv5 HC
    go_wp2
    go_ret
    rw [HR.out]
    exact ⟨r, nv4, rfl, HF5.out, HI5.out, HV5.out⟩
   ·rw [show decide (r2.2.e ≠ 0) = true by simp [he2]] at e4
    have HR : Hid _ := HRE.out he2
    clear hfr hin4 hQb hkw hv1 hv2 he2
    go_wp2
    go_ret
    rw [HR.out]
    have hbn := below_alZ (Below.refl _ wr) kn0
    exact ⟨wr.heap.size, nv4, rfl, HF.out.trans (FrO.below hbn _ _), HI.out.grow hbn, blk_new wr kn0⟩
set_option maxRecDepth 100000 in
set_option maxHeartbeats 4000000 in
theorem kgo_one {w0 : World} (yb fuel : Nat) (vs : List Nat) (k : Kw) (a : KE) (ta : Nat) (hk1 : k ≠ .let_) (hk2 : k ≠ .if_) (hk3 : k ≠ .loop) (hta : KT vs a ta) (hvl : vs.length ≤ 100) (iha : KGo w0 yb fuel a vs) (hmd : Made1 w0 yb fuel k (tyZ ta)) : KGoN w0 yb fuel (.n1 k a) vs := by
 intro b vals ps st nv w hx hin henv hlen hs he hq
 obtain ⟨c, pa, hka, hT1⟩ := katz1 hx
 have hne : b ≠ yb := by have := hin.ob.hyb; have := hka.hb; omega
 have hgy : c ≠ yb := by have := hin.ob.hyb; have := hka.hg; omega
 have hev : ev fuel ((KE.n1 k a).pt []) (envV vals) st = partsV fuel k [a.pt []] (envV vals) { st with steps := st.steps + 1 } := by
  simp only [KE.pt]
  rw [ev_parts fuel _ k _ _ _ (envV vals) st hk1 hk2 hk3, begun_goZ he hq]
 rw [hev, partsV1]
 have hs' := hs.step hq
 have hr1 := kev_res (fuel := fuel) hta hvl vals { st with steps := st.steps + 1 } (fun _ => henv)
 have h1 := fun nv2 w2 (hin2 : WkIn w0 w2 yb vals ps fuel { st with steps := st.steps + 1 } nv2) => iha pa vals ps { st with steps := st.steps + 1 } nv2 w2 hT1 hin2 (fun _ => henv) hlen hs'
 generalize ev fuel (a.pt []) (envV vals) { st with steps := st.steps + 1 } = r1 at *
 obtain ⟨R, hR⟩ : ∃ R, R = if r1.2.e ≠ 0 then (Vl.n 0, r1.2) else madeV k [r1.1] r1.2 := ⟨_, rfl⟩
 rw [← hR]
 have HRN : Hid (r1.2.e = 0 → R = madeV k [r1.1] r1.2) := fun h => by rw [hR, if_neg (fun g => g h)]
 have HRE : Hid (r1.2.e ≠ 0 → R = (Vl.n 0, r1.2)) := fun h => by rw [hR, if_pos h]
 have hm : ∀ (nv2 : Value) (w2 : World) (p1 : Nat), r1.2.e = 0 → WkIn w0 w2 yb vals ps fuel r1.2 nv2 → KVal w2 r1.1 p1 →
   Calls Tryz.prog 86 #[.pointer (some ⟨yb, 0, none⟩), .pointer (some ⟨b, 0, none⟩), .pointer (some ⟨p1, 0, none⟩), .pointer none] w2 fun e w' => ∃ r, e = .returned (.pointer (some ⟨r, 0, none⟩)) ∧ FrO w2 w' yb nv2 nv2 ∧ WkIn w0 w' yb vals ps fuel (madeV k [r1.1] r1.2).2 nv2 ∧ KVal w' (madeV k [r1.1] r1.2).1 r := by
  intro nv2 w2 p1 e hin2 hv1
  exact hmd b c 0 [pa] vals ps r1.2 nv2 w2 r1.1 p1 hka hin2 (hr1.1 e).2 hv1
 have hkw := hka.on hin.ob.b0
 have x0 := hkw.c0
 have xl1 := hkw.hb
 have xl2 := hkw.hg
 have q0 : ((bs k.bytes).toList == []) = false := by rw [bs_beq0]; cases k <;> decide
 have q1 : ((bs k.bytes).toList == [120]) = false := by rw [bs_beq0]; cases k <;> decide
 have q2 : ((bs k.bytes).toList == [108, 101, 116]) = false := by rw [bs_beq0]; cases k <;> first | decide | exact absurd rfl hk1
 have q3 : ((bs k.bytes).toList == [105, 102]) = false := by rw [bs_beq0]; cases k <;> first | decide | exact absurd rfl hk2
 have q4 : ((bs k.bytes).toList == [108, 111, 111, 112]) = false := by rw [bs_beq0]; cases k <;> first | decide | exact absurd rfl hk3
 have y1 : w.cell? ⟨yb, 1, none⟩ = some (.int .i64 fuel) := by rw [blk_cell hin.ob.y]; rfl
 have y2 : w.cell? ⟨yb, 2, none⟩ = some (.int .i64 st.steps) := by rw [blk_cell hin.ob.y]; rfl
 have y4 : w.cell? ⟨yb, 4, none⟩ = some (.bool false) := by rw [blk_cell hin.ob.y]; simp [wkCells, he]
 have f2 : w.frozen? ⟨yb, 2, none⟩ = false := blk_free hin.ob.y 2
 have hyl := blk_lt hin.ob.y
 have q9 : ((st.steps : Int) == (fuel : Int)) = false := by rw [beq_eq_false_iff_ne]; omega
 have hss := hs.s
 have hsf := hs.f
 have HK : Hid _ := hka
 have HBG : Hid _ := fun m => hin.begin m
 have HW0 : Hid _ := hin.ob.b0.size
 have H1 : Hid _ := h1
 have HM : Hid _ := hm
 clear hka hkw hx hin henv hs he hev hq hT1 iha hs' hr1 h1 hm hlen hmd hR hta
 go_enter Tryz.func51, Tryz.ntmps51
 go_wp2_with fail
 go_quiet (fail)
 go_wp2_with fail
 have HBQ : Hid _ := HBG.out nq
 have HNQ : Hid _ := blk_newS w nq ⟨yb, 2, none⟩ (.int .i64 ((st.steps : Int) + 1)) arr2
 clear HBG x0 y1 y2 y4 f2
 generalize hQ : w.heap.size = Q at *
 go_loopw [11] (fun i wr => ∃ (j : Nat) (nv4 : Value), i = .int .i64 j ∧ FrO w wr yb nv nv4 ∧ ((j = 0 ∧ WkIn w0 wr yb vals ps fuel { st with steps := st.steps + 1 } nv4 ∧ wr.heap[Q]? = some (two2 (.pointer none) (.pointer none))) ∨ (j = 1 ∧ ∃ p1 : Nat, WkIn w0 wr yb vals ps fuel r1.2 nv4 ∧ wr.heap[Q]? = some (two2 (.pointer (some ⟨p1, 0, none⟩)) (.pointer none)) ∧ KVal wr r1.1 p1))) (fun i _ => 1 - (intOf i).toNat)
 case atStart => exact ⟨0, nv, rfl, HBQ.out.2, Or.inl ⟨rfl, HBQ.out.1, HNQ.out⟩⟩
 case round =>
  obtain ⟨j, nv4, rfl, hfr, hP⟩ := hrel
  have HF : Hid _ := hfr
  rcases hP with ⟨rfl, hin4, hQb⟩ | ⟨rfl, p1, hin4, hQb, hv1⟩
  ·have hkw := HK.out.on hin4.ob.b0
   have u2 := hkw.c2
   have uk := hkw.ck 0 pa rfl
   have ul1 := hkw.hb
   have ul2 := hkw.hg
   have HI : Hid _ := hin4
   have HQB : Hid _ := hQb
   have HC : Hid _ := H1.out nv4 wr hin4
   clear hfr hin4 hQb hkw
   go_wp2_with fail
   refine Calls.mono HC.out ?_
   rintro _ w2 ⟨r, nv5, rfl, hf5, hi5, hv5⟩
   have hQ2 : w2.heap[Q]? = some (two2 (.pointer none) (.pointer none)) := HI.out.ob.other hf5 (by decide) (by decide) HQB.out
   have ql := blk_lt hQ2
   have qf : w2.frozen? ⟨Q, 0, none⟩ = false := blk_free hQ2 0
   have qc : w2.cell? ⟨Q, 0, none⟩ = some (.pointer none) := by rw [blk_cell hQ2]; rfl
   have hqw0 : w0.heap.size ≤ Q := by have := HW0.out; omega
   have HF5 : Hid _ := (HF.out.trans hf5).setNew (q := Q) (o := 0) (x := .pointer (some ⟨r, 0, none⟩)) (by omega)
   have HI5 : Hid _ := hi5.setElse (o := 0) (x := .pointer (some ⟨r, 0, none⟩)) hQ2 hqw0
   have HV5 : Hid _ := hv5.setElse (o := 0) (x := .pointer (some ⟨r, 0, none⟩)) hQ2
   have HQ5 : Hid ((w2.setCell ⟨Q, 0, none⟩ (.pointer (some ⟨r, 0, none⟩))).heap[Q]? = some (two2 (.pointer (some ⟨r, 0, none⟩)) (.pointer none))) := (blk_set hQ2 0 _).trans rfl
   clear hf5 hi5 hv5 hQ2 HC HI HQB
   go_wp2
   go_roundw
   case rel => exact ⟨1, nv5, by first | rfl | go_num, HF5.out, Or.inr ⟨rfl, r, HI5.out, HQ5.out, HV5.out⟩⟩
   case measure => simp [intOf]
  ·have hkw := HK.out.on hin4.ob.b0
   have u2 := hkw.c2
   have ul1 := hkw.hb
   have ul2 := hkw.hg
   have e4 : wr.cell? ⟨yb, 4, none⟩ = some (.bool (decide (r1.2.e ≠ 0))) := by rw [blk_cell hin4.ob.y]; rfl
   have hylr := blk_lt hin4.ob.y
   have qa : wr.cell? ⟨Q, 0, none⟩ = some (.pointer (some ⟨p1, 0, none⟩)) := by rw [blk_cell hQb]; rfl
   have qb : wr.cell? ⟨Q, 1, none⟩ = some (.pointer none) := by rw [blk_cell hQb]; rfl
   have ql := blk_lt hQb
   have HI : Hid _ := hin4
   by_cases he2 : r1.2.e = 0
   ·rw [show decide (r1.2.e ≠ 0) = false by simp [he2]] at e4
    have HC : Hid _ := HM.out nv4 wr p1 he2 hin4 hv1
    have HR : Hid _ := HRN.out he2
    clear hfr hin4 hQb hkw hv1 he2
    go_wp2_with fail
    refine Calls.mono HC.out ?_
    rintro _ w2 ⟨r, rfl, hf5, hi5, hv5⟩
    have HF5 : Hid _ := HF.out.trans hf5
    have HI5 : Hid _ := hi5
    have HV5 : Hid _ := hv5
    clear hf5 hi5 hv5 HC
    go_wp2
    go_ret
    rw [HR.out]
    exact ⟨r, nv4, rfl, HF5.out, HI5.out, HV5.out⟩
   ·rw [show decide (r1.2.e ≠ 0) = true by simp [he2]] at e4
    have HR : Hid _ := HRE.out he2
    clear hfr hin4 hQb hkw hv1 he2
    go_wp2
    go_ret
    rw [HR.out]
    have hbn := below_alZ (Below.refl _ wr) kn0
    exact ⟨wr.heap.size, nv4, rfl, HF.out.trans (FrO.below hbn _ _), HI.out.grow hbn, blk_new wr kn0⟩
theorem kgo_any {w0 : World} (yb fuel : Nat) : ∀ {vs : List Nat} {x : KE} {t : Nat}, KT vs x t → vs.length ≤ 100 → KGo w0 yb fuel x vs := by
 intro vs x t h
 induction h with
 | num _ => intro _; exact go1_of (kgo_num yb fuel _ _)
 | var h => intro hl; exact go1_of (kgo_var yb fuel _ _ (List.getElem?_eq_some_iff.1 h).1 (by omega))
 | let_ _ hl h1 _ ha hb => intro _; exact go1_of (kgo_let yb fuel _ _ _ _ h1 hl (ha (by omega)) (hb (by simp; omega)))
 | if_ h1 _ _ ha hb hc => intro hl; exact go1_of (kgo_if yb fuel _ _ _ _ h1 hl (ha hl) (hb hl) (hc hl))
 | loop hl h1 h2 h3 ha hb hc => intro _; exact go1_of (kgo_loop yb fuel _ _ _ _ _ h1 h2 h3 hl (ha (by omega)) (hb (by omega)) (hc (by simp; omega)))
 | pair _ _ h1 h2 ha hb => intro hl; exact go1_of (kgo_two yb fuel _ .pair 0 _ _ _ _ (by decide) (by decide) (by decide) h1 h2 hl (ha hl) (hb hl) (madeZ_pair yb fuel _ _))
 | fst h0 hp h1 ha => intro hl; exact go1_of (kgo_one yb fuel _ .fst _ _ (by decide) (by decide) (by decide) h1 hl (ha hl) (by rw [tyZ_pair hp h0]; exact madeZ_fst yb fuel _ _ _))
 | snd h0 hp h1 ha => intro hl; exact go1_of (kgo_one yb fuel _ .snd _ _ (by decide) (by decide) (by decide) h1 hl (ha hl) (by rw [tyZ_pair hp h0]; exact madeZ_snd yb fuel _ _ _))
 | two hk h1 h2 ha hb =>
  intro hl
  rcases hk with rfl | rfl | rfl
  ·exact go1_of (kgo_two yb fuel _ .add 0 _ _ _ _ (by decide) (by decide) (by decide) h1 h2 hl (ha hl) (hb hl) (madeZ_add yb fuel))
  ·exact go1_of (kgo_two yb fuel _ .sub 0 _ _ _ _ (by decide) (by decide) (by decide) h1 h2 hl (ha hl) (hb hl) (madeZ_sub yb fuel))
  ·exact go1_of (kgo_two yb fuel _ .less 0 _ _ _ _ (by decide) (by decide) (by decide) h1 h2 hl (ha hl) (hb hl) (madeZ_less yb fuel))
end Go.Proofs.YtpicaknklgccoaaGreatDoor
namespace Go.Proofs.YtpicaknklgccoaaGreatDoor
open Go.RowKit
theorem res_cells {w : World} {q : Nat} {S : ByteArray} {a b c d : Int} (h : w.heap[q]? = some (.cells #[.string S, .int .i64 a, .int .i64 b, .int .i64 c, .int .i64 d] 23)) :
  w.cell? ⟨q, 0, none⟩ = some (.string S) ∧ w.cell? ⟨q, 1, none⟩ = some (.int .i64 a) ∧ w.cell? ⟨q, 2, none⟩ = some (.int .i64 b) ∧ w.cell? ⟨q, 3, none⟩ = some (.int .i64 c) ∧ w.cell? ⟨q, 4, none⟩ = some (.int .i64 d) := by
 refine ⟨?_, ?_, ?_, ?_, ?_⟩ <;> (rw [blk_cell h]; rfl)
set_option maxRecDepth 100000 in
set_option maxHeartbeats 4000000 in
theorem run_ok (w : World) (x1 : Option Addr) (n1 c1 : Nat) (x2 : Option Addr) (n2 c2 : Nat) (fuel : Nat) (hf : fuel ≤ 20000) (S : ByteArray) (a b c d E : Int)
  (hrun : ∀ w', Below w.heap.size w w' → Calls Tryz.prog 59 #[treeV (.slice x1 n1 c1) (.slice x2 n2 c2), .int .i64 fuel] w' fun e w'' => e = .returned (.tuple #[.agg #[.string S, .int .i64 a, .int .i64 b, .int .i64 c, .int .i64 d], .int .i64 E]) ∧ Below w'.heap.size w' w'') :
  Calls Tryz.prog 32 #[treeV (.slice x1 n1 c1) (.slice x2 n2 c2), .int .i64 fuel] w fun e w' => e = .returned (.tuple #[.agg #[.string S, .int .i64 a, .int .i64 b, .int .i64 c, .int .i64 d], .int .i64 E]) ∧ Below w.heap.size w w' := by
 have HR : Hid _ := hrun
 clear hrun
 unfold treeV at HR
 unfold treeV
 go_enter Tryz.func32, Tryz.ntmps32
 go_wp2_with fail
 refine Calls.mono (HR.out _ (below_al (below_al (Below.refl _ _) _) _)) ?_
 rintro _ w2 ⟨rfl, hb2⟩
 have hq : w2.heap[w.heap.size + 1]? = some (.cells #[.string ⟨#[]⟩, .int .i64 0, .int .i64 0, .int .i64 0, .int .i64 0] 23) := by
  rw [hb2.block _ (by simp)]
  have := blk_new (w.alloc (.cells #[.slice x1 n1 c1, .slice x2 n2 c2] 59)) (.cells #[.string ⟨#[]⟩, .int .i64 0, .int .i64 0, .int .i64 0, .int .i64 0] 23)
  simpa using this
 have hB : Below w.heap.size w w2 := (below_al (below_al (Below.refl _ w) (.cells #[.slice x1 n1 c1, .slice x2 n2 c2] 59)) (.cells #[.string ⟨#[]⟩, .int .i64 0, .int .i64 0, .int .i64 0, .int .i64 0] 23)).trans (hb2.mono (by simp; omega))
 have HB : Hid _ := hB
 have hle : w.heap.size ≤ w.heap.size + 1 := by omega
 have HLE : Hid _ := hle
 clear hb2 hB hle HR
 generalize w.heap.size + 1 = q at *
 go_wp2_with (refine st_row rfl 23 (.tmp 4) (.tmp 16) rfl q #[.string S, .int .i64 a, .int .i64 b, .int .i64 c, .int .i64 d] rfl rfl 23 _ hq Tryz.infoRes rfl (by simp [Value.oneCell']) ?_; intro W hW hWs hWo hW1 hW2 hW3)
 obtain ⟨s0, s1, s2, s3, s4⟩ := res_cells hW
 have HBN : Hid _ := below_new HB.out HLE.out hWs hWo hW1 hW2 hW3
 clear hW hWs hWo hW1 hW2 hW3 HB hq
 go_wp2
 refine bodyPost_ret (v := .tuple #[.agg #[.string S, .int .i64 a, .int .i64 b, .int .i64 c, .int .i64 d], .int .i64 E]) (by simp [results, Tryz.results32, go_sem, s0, s1, s2, s3, s4]) rfl ⟨rfl, HBN.out⟩
theorem wants_noreg (k : Kw) : Wt.region ∉ wantsK k false := by cases k <;> decide
mutual
theorem PE.plain : ∀ {l : List Tk} {e : PT} {r : List Tk}, PE false l e r → (∀ t ∈ l, TkTame t) → (e.rgd ∧ NoNew e) ∧ ∀ t ∈ r, TkTame t
 | _, _, _, .num (t := t) h, ha => ⟨⟨by simp only [PT.rgd]; exact (ha t (by simp)).1 h, .num⟩, fun x hx => ha x (by simp [hx])⟩
 | _, _, _, .name (t := t) h, ha => ⟨⟨by simp [PT.rgd], .name⟩, fun x hx => ha x (by simp [hx])⟩
 | _, _, _, .node (k := k) _ _ h3 h4, ha => by
  have h := PW.plain h4 (wants_noreg k) (fun x hx => ha x (by simp [hx]))
  refine ⟨⟨by simp only [PT.rgd]; exact ⟨by rw [h.1]; decide, h.2.1⟩, .node (fun e => by subst e; exact h3 rfl) h.2.2.1⟩, h.2.2.2⟩
theorem PW.plain : ∀ {ws : List Wt} {l : List Tk} {nm rg : List UInt8} {kids : List PT} {r : List Tk}, PW false ws l nm rg kids r → Wt.region ∉ ws → (∀ t ∈ l, TkTame t) → rg = [] ∧ rgdL kids ∧ (∀ x ∈ kids, NoNew x) ∧ ∀ t ∈ r, TkTame t
 | _, _, _, _, _, _, .nil, _, ha => ⟨rfl, by simp [rgdL], by simp, ha⟩
 | _, _, _, _, _, _, .close _ h1, hn, ha => PW.plain h1 (fun h => hn (by simp [h])) (fun x hx => ha x (by simp [hx]))
 | _, _, _, _, _, _, .name _ h1, hn, ha => PW.plain h1 (fun h => hn (by simp [h])) (fun x hx => ha x (by simp [hx]))
 | _, _, _, _, _, _, .region _ h1, hn, ha => absurd (by simp) hn
 | _, _, _, _, _, _, .e h0 h1, hn, ha => by
  have a := PE.plain h0 ha
  have b := PW.plain h1 (fun h => hn (by simp [h])) a.2
  refine ⟨b.1, by simp only [rgdL]; exact ⟨a.1.1, b.2.1⟩, ?_, b.2.2.2⟩
  intro x hx
  rcases List.mem_cons.1 hx with rfl | hx
  ·exact a.1.2
  ·exact b.2.2.1 x hx
end
theorem chk_WT {e : PT} (hw : e.wf) (h : (chkAns e).1 = 0) : ∃ T, WT [] e T ∧ T.size ≤ 63 := by
 unfold chkAns at h
 split at h
 ·simp at h
 ·have := tyFind_WT (List.range e.prs) e 0 0 [] (st0 e) hw h
  exact ⟨_, this.2.2, by rw [bare_sizeE]; exact this.2.1⟩
end Go.Proofs.YtpicaknklgccoaaGreatDoor
namespace Go.Proofs.YtpicaknklgccoaaGreatDoor
open Go.RowKit
open Go.Lib (decDigits)
abbrev res0 : Obj := .cells #[.string ⟨#[]⟩, .int .i64 0, .int .i64 0, .int .i64 0, .int .i64 0] 23 (0, 0)
theorem below_setZ {B : Nat} {w W : World} (h : Below B w W) (p : Addr) (hp : B ≤ p.block) (x : Value) : Below B w (W.setCell p x) := h.setCell hp x
set_option maxRecDepth 100000 in
set_option maxHeartbeats 1000000 in
theorem worked_any (w : World) (x : KE) (t p fuel : Nat) (hfu : fuel ≤ 20000) (hT : KT [] x t) (hk : KIn w x p) (hit : ∀ W, Below w.heap.size w W → ItoaOk W) (R : Vl × ESt) (hR : R = ev fuel (x.pt []) [] ⟨0, 0, 0⟩) :
  Calls Tryz.prog 24 #[.pointer (some ⟨p, 0, none⟩), .int .i64 fuel] w fun e w' => e = .returned (.tuple #[evalV R, .bool (decide (R.2.e = 0))]) ∧ Below w.heap.size w w' := by
 have hb0 : Below w.heap.size w (w.alloc res0) := below_alZ (Below.refl _ _) _
 have hs0 : (w.alloc res0).heap.size = w.heap.size + 1 := by simp
 have hin : WkIn (w.alloc res0) ((w.alloc res0).alloc (.cells (wkCells (.slice none 0 0) fuel ⟨0, 0, 0⟩) 103 (0, 0))) (w.heap.size + 1) [] [] fuel ⟨0, 0, 0⟩ (.slice none 0 0) := by
  refine ⟨⟨below_alZ (Below.refl _ _) _, by omega, ?_, World.ownsRow_nil _ _ _ _, by simp [Value.ownBlock]⟩, rfl, fun i v p h => by simp at h⟩
  have := blk_new (w.alloc res0) (.cells (wkCells (.slice none 0 0) fuel ⟨0, 0, 0⟩) 103 (0, 0))
  rw [hs0] at this; exact this
 have hs : SOkZ fuel ⟨0, 0, 0⟩ := ⟨hfu, Nat.zero_le _, Nat.le_refl _⟩
 have henv : EnvHas (envV []) (envT []) := fun s T h => by simp [look, envT] at h
 have hgo := kgo_any (w0 := w.alloc res0) (w.heap.size + 1) fuel hT (by simp) p [] [] ⟨0, 0, 0⟩ _ _ (hk.below hb0) hin (fun _ => henv) rfl hs
 have hres := kev_res (fuel := fuel) hT (by simp) [] ⟨0, 0, 0⟩ (fun _ => henv)
 rw [show envV [] = ([] : VEnv) from rfl, ← hR] at hgo hres
 have HGO : Hid _ := hgo
 have HRES : Hid _ := hres
 have HIT : Hid _ := hit
 have HB0 : Hid _ := hb0
 have hcl := (hs.on (x.pt []) [])
 rw [← hR] at hcl
 have HQ0 : Hid ((w.alloc res0).heap[w.heap.size]? = some res0) := blk_new w res0
 clear hgo hin hs henv hres hit hb0 hk hR hT
 by_cases he : R.2.e = 0
 ·have hV : evalV R = .agg #[.string (bs R.1.txt), .int .i64 R.2.steps, .int .i64 R.2.cells, .int .i64 R.2.cells, .int .i64 R.2.cells] := by unfold evalV; rw [if_neg (fun h => h he)]
  rw [hV, show decide (R.2.e = 0) = true by simp [he]]
  have HE : Hid _ := he
  clear hV he
  go_enter Tryz.func24, Tryz.ntmps24
  go_wp2_with fail
  refine Calls.mono HGO.out ?_
  rintro _ w2 ⟨r, nv2, rfl, hfr, hin2, hkv⟩
  have hyl := blk_lt hin2.ob.y
  have y2 : w2.cell? ⟨w.heap.size + 1, 2, none⟩ = some (.int .i64 R.2.steps) := by rw [blk_cell hin2.ob.y]; rfl
  have y3 : w2.cell? ⟨w.heap.size + 1, 3, none⟩ = some (.int .i64 R.2.cells) := by rw [blk_cell hin2.ob.y]; rfl
  have y4 : w2.cell? ⟨w.heap.size + 1, 4, none⟩ = some (.bool false) := by rw [blk_cell hin2.ob.y]; simp [wkCells, HE.out]
  have hq : w2.heap[w.heap.size]? = some res0 := by rw [hin2.ob.b0.block _ (by omega)]; exact HQ0.out
  have HB2 : Hid (Below w.heap.size w w2) := HB0.out.trans (hin2.ob.b0.mono HB0.out.size)
  have HTL : Hid (∀ W, Below w2.heap.size w2 W → Calls Tryz.prog 52 #[.pointer (some ⟨r, 0, none⟩)] W fun e w' => e = .returned (.string (bs R.1.txt)) ∧ Below W.heap.size W w') := fun W hW => ktold_any R.1 (tyZ t) r W (HRES.out.1 HE.out).2 (by have := tyZ_size t; omega) (hkv.below hW) (fun W' hW' => HIT.out W' (HB2.out.trans ((hW.trans (hW'.mono hW.size)).mono HB2.out.size)))
  have hS : ∀ W, Below w2.heap.size w2 W → W.cell? ⟨w.heap.size + 1, 2, none⟩ = some (.int .i64 R.2.steps) ∧ W.cell? ⟨w.heap.size + 1, 3, none⟩ = some (.int .i64 R.2.cells) := fun W hW => ⟨(hW.cell (p := ⟨w.heap.size + 1, 2, none⟩) hyl).trans y2, (hW.cell (p := ⟨w.heap.size + 1, 3, none⟩) hyl).trans y3⟩
  have hS2 : ∀ W, Below w2.heap.size w2 W → W.cell? ⟨w.heap.size, 0, none⟩ = some (.string ⟨#[]⟩) ∧ W.cell? ⟨w.heap.size, 1, none⟩ = some (.int .i64 0) ∧ W.cell? ⟨w.heap.size, 2, none⟩ = some (.int .i64 0) ∧ W.cell? ⟨w.heap.size, 3, none⟩ = some (.int .i64 0) ∧ W.cell? ⟨w.heap.size, 4, none⟩ = some (.int .i64 0) ∧ W.frozen? ⟨w.heap.size, 0, none⟩ = false ∧ W.frozen? ⟨w.heap.size, 1, none⟩ = false ∧ W.frozen? ⟨w.heap.size, 2, none⟩ = false ∧ W.frozen? ⟨w.heap.size, 3, none⟩ = false ∧ W.frozen? ⟨w.heap.size, 4, none⟩ = false ∧ w.heap.size < W.heap.size ∧ w.heap.size + 1 < W.heap.size := fun W hW => by
   have hqW := (hW.block _ (blk_lt hq)).trans hq
   exact ⟨by rw [blk_cell hqW]; rfl, by rw [blk_cell hqW]; rfl, by rw [blk_cell hqW]; rfl, by rw [blk_cell hqW]; rfl, by rw [blk_cell hqW]; rfl, blk_free hqW 0, blk_free hqW 1, blk_free hqW 2, blk_free hqW 3, blk_free hqW 4, blk_lt hqW, by have := hW.size; omega⟩
  have hql := blk_lt hq
  have hYQ : w.heap.size + 1 ≠ w.heap.size := by omega
  have hQY : w.heap.size ≠ w.heap.size + 1 := by omega
  have HS : Hid _ := hS
  have HS2 : Hid _ := hS2
  have HQ : Hid _ := hq
  clear hfr hin2 hkv hq hS hS2 HGO HRES HIT HQ0 HB0 y2 y3
  generalize w.heap.size + 1 = Y at *
  generalize hQE : w.heap.size = Q at *
  have HQE : Hid _ := hQE
  clear hQE
  go_wp2_with fail
  have HSa : Hid (w2.cell? ⟨Y, 2, none⟩ = some (.int .i64 R.2.steps) ∧ w2.cell? ⟨Y, 3, none⟩ = some (.int .i64 R.2.cells)) := HS.out w2 (Below.refl _ _)
  have HSb : Hid (∀ m, (w2.drewN m).cell? ⟨Y, 2, none⟩ = some (.int .i64 R.2.steps) ∧ (w2.drewN m).cell? ⟨Y, 3, none⟩ = some (.int .i64 R.2.cells)) := fun m => HS.out _ (below_drewO w2 m)
  have HSc : Hid (w2.drew.cell? ⟨Y, 2, none⟩ = some (.int .i64 R.2.steps) ∧ w2.drew.cell? ⟨Y, 3, none⟩ = some (.int .i64 R.2.cells)) := HS.out w2.drew ⟨rfl, rfl, rfl, Nat.le_refl _, fun _ _ => rfl⟩
  go_region_held3 (fun W => W.cell? ⟨Y, 2, none⟩ = some (.int .i64 R.2.steps) ∧ W.cell? ⟨Y, 3, none⟩ = some (.int .i64 R.2.cells)) (first | with_reducible exact HSa.out | with_reducible exact HSb.out _ | with_reducible exact HSc.out | with_reducible exact ⟨t2, t3⟩ | go_keep) (first | (go_at_call 52; refine Calls.mono (HTL.out _ ?_) ?_; exact ⟨rfl, rfl, rfl, Nat.le_refl _, fun _ _ => rfl⟩; rintro e w3 ⟨rfl, hb3⟩; obtain ⟨t2, t3⟩ := HS.out w3 ⟨hb3.os, hb3.tape, hb3.output, hb3.size, fun k hk => hb3.block k hk⟩; obtain ⟨r0, r1, r2, r3, r4, g0, g1, g2, g3, g4, l1, l2⟩ := HS2.out w3 ⟨hb3.os, hb3.tape, hb3.output, hb3.size, fun k hk => hb3.block k hk⟩))
  all_goals
   have hq3 : w3.heap[Q]? = some res0 := (hb3.block Q hql).trans HQ.out
   have hB3 : Below Q w w3 := HB2.out.trans ((⟨hb3.os, hb3.tape, hb3.output, hb3.size, fun k hk => hb3.block k hk⟩ : Below w2.heap.size w2 w3).mono (by omega))
   obtain ⟨W7, hE7⟩ : ∃ W7, W7 = (((((w3.setCell ⟨Q, 0, none⟩ (.string (bs R.1.txt))).setCell ⟨Q, 1, none⟩ (.int .i64 R.2.steps)).setCell ⟨Q, 2, none⟩ (.int .i64 R.2.cells)).setCell ⟨Q, 3, none⟩ (.int .i64 R.2.cells)).setCell ⟨Q, 4, none⟩ (.int .i64 R.2.cells)) := ⟨_, rfl⟩
   have hN7 : W7.heap[Q]? = some (.cells #[.string (bs R.1.txt), .int .i64 R.2.steps, .int .i64 R.2.cells, .int .i64 R.2.cells, .int .i64 R.2.cells] 23 (0, 0)) := by
    rw [hE7]; exact (blk_set (blk_set (blk_set (blk_set (blk_set hq3 0 _) 1 _) 2 _) 3 _) 4 _).trans rfl
   have HB7 : Hid (Below Q w W7) := by
    show Below Q w W7
    rw [hE7]; exact below_setZ (below_setZ (below_setZ (below_setZ (below_setZ hB3 _ (Nat.le_refl _) _) _ (Nat.le_refl _) _) _ (Nat.le_refl _) _) _ (Nat.le_refl _) _) _ (Nat.le_refl _) _
   rw [← hE7]
   obtain ⟨s0, s1, s2, s3, s4⟩ := res_cells hN7
   clear hE7 hN7 hq3 hB3 hb3 t2 t3 r0 r1 r2 r3 r4 g0 g1 g2 g3 g4 l1 l2 y4
   go_wp2
   refine bodyPost_ret (v := .tuple #[.agg #[.string (bs R.1.txt), .int .i64 R.2.steps, .int .i64 R.2.cells, .int .i64 R.2.cells, .int .i64 R.2.cells], .bool true]) (by simp [results, Tryz.results24, go_sem, s0, s1, s2, s3, s4]) rfl ⟨rfl, by rw [HQE.out]; exact HB7.out⟩
 ·have hV : evalV R = .agg #[.string ⟨#[]⟩, .int .i64 0, .int .i64 0, .int .i64 0, .int .i64 0] := by unfold evalV; rw [if_pos he]
  rw [hV, show decide (R.2.e = 0) = false by simp [he]]
  have HE : Hid _ := he
  clear hV he
  go_enter Tryz.func24, Tryz.ntmps24
  go_wp2_with fail
  refine Calls.mono HGO.out ?_
  rintro _ w2 ⟨r, nv2, rfl, hfr, hin2, hkv⟩
  have hyl := blk_lt hin2.ob.y
  have y4 : w2.cell? ⟨w.heap.size + 1, 4, none⟩ = some (.bool true) := by
   have hne : decide (R.2.e ≠ 0) = true := decide_eq_true HE.out
   rw [blk_cell hin2.ob.y]
   show some (Value.bool (decide (R.2.e ≠ 0))) = _
   rw [hne]
  have hq : w2.heap[w.heap.size]? = some res0 := by rw [hin2.ob.b0.block _ (by omega)]; exact HQ0.out
  have HB2 : Hid (Below w.heap.size w w2) := HB0.out.trans (hin2.ob.b0.mono HB0.out.size)
  clear hfr hin2 hkv HGO HRES HIT HQ0 HB0
  go_wp2_with (refine st_row rfl 23 (.tmp 4) (.tmp 18) rfl w.heap.size #[.string ⟨#[]⟩, .int .i64 0, .int .i64 0, .int .i64 0, .int .i64 0] rfl rfl 23 _ hq Tryz.infoRes rfl (by simp [Value.oneCell']) ?_; intro W hW hWs hWo hW1 hW2 hW3)
  obtain ⟨s0, s1, s2, s3, s4⟩ := res_cells hW
  have HBN : Hid _ := below_new HB2.out (Nat.le_refl _) hWs hWo hW1 hW2 hW3
  clear hW hWs hWo hW1 hW2 hW3 HB2 hq
  go_wp2
  refine bodyPost_ret (v := .tuple #[.agg #[.string ⟨#[]⟩, .int .i64 0, .int .i64 0, .int .i64 0, .int .i64 0], .bool false]) (by simp [results, Tryz.results24, go_sem, s0, s1, s2, s3, s4]) rfl ⟨rfl, HBN.out⟩
theorem built_PE {placed : Bool} {rg : List UInt8} (hr : RgOk placed rg) {x : KE} {t : Nat} (h : KT [] x t) (hp : x.prs ≤ 100) :
  ∃ e, PE placed (tokens (x.pt rg).tidy) e [] ∧ chkAns e = (0, 0) ∧ e.np = x.pt rg ∧ ∀ fuel env st, ev fuel e env st = ev fuel (x.pt []) env st := by
 obtain ⟨e, he, hnp⟩ := tidy_PE (x.pt rg) (pt_ok hr h)
 rw [pt_np] at hnp
 have hwt : WT [] (x.pt rg) (tyZ t) := pt_WT (rg := rg) h (by simp)
 refine ⟨e, he, chk_ok (np_WT e (by rw [hnp]; exact hwt)) ?_, hnp, fun fuel env st => ?_⟩
 ·rw [← np_prs, hnp, pt_prs rg h]; exact hp
 ·rw [← np_ev, hnp, rg_ev]
end Go.Proofs.YtpicaknklgccoaaGreatDoor
namespace Go.Proofs.YtpicaknklgccoaaGreatDoor
theorem findS_snocO (sc : Sc) (nm : List UInt8) (i : Int) (s : List UInt8) : findS (sc ++ [(nm, i)]) s = if nm = s then i else findS sc s := by
 unfold findS
 rw [List.reverse_append, List.reverse_singleton, List.singleton_append, List.find?_cons]
 by_cases h : nm = s
 ·subst h; simp
 ·have : (nm == s) = false := by rw [beq_eq_false_iff_ne]; exact h
  simp only [this, if_neg h]
end Go.Proofs.YtpicaknklgccoaaGreatDoor
namespace Go.Proofs.YtpicaknklgccoaaGreatDoor
open Go.RowKit
theorem slice_anyU {w : World} {base : Nat} {e : TypeId} {size : Nat} {v : Value} {n : Nat} {xs : List Value} (h : w.ownsRow base e size v n xs) : ∃ a c, v = .slice a n c := by
 rcases h.2 with ⟨h1, h2⟩ | ⟨g, cap, cur, h1, _⟩
 ·exact ⟨none, 0, by rw [h1, h2]⟩
 ·exact ⟨_, _, h1⟩
set_option maxRecDepth 100000 in
set_option maxHeartbeats 4000000 in
theorem parsePlaced_full (s : ByteArray) (w : World) (hs : s.size ≤ 9000) (e : PT) (hp : PE true (tokens s.data.toList) e []) : Calls Tryz.prog 54 #[.string s] w fun v w' => ∃ x1 n1 c1 x2 n2 c2 ns, v = .returned (.tuple #[treeV (.slice x1 n1 c1) (.slice x2 n2 c2), .int .i64 0, .int .i64 0]) ∧ Below w.heap.size w w' ∧ TreeIn w' (.slice x1 n1 c1) (.slice x2 n2 c2) ns (opn e 0) ∧ NA [] e 0 ns := by
 obtain ⟨ns, hna, hpg⟩ := prog_yes (len := s.size) hp
 have hpp := fun w => ParsePlaced_any s w (by omega)
 have HPG : Hid _ := hpg
 have HNA : Hid _ := hna
 clear hp hna hpg
 go_enter Tryz.func54, Tryz.ntmps54
 go_wp2_with fail
 refine (hpp _).mono ?_
 rintro v w1 ⟨hb, hv⟩
 have hr := kept1 hb
 have hlt := blk_lt hr
 have HB : Hid _ := below1 hb
 rcases hv with ⟨q', hq', _⟩ | ⟨_, nv, ov, rfl, hT⟩
 ·rw [HPG.out] at hq'; cases hq'
 ·rw [HPG.out] at hT
  simp only at hT
  obtain ⟨x1, c1, e1⟩ := slice_anyU hT.nd
  obtain ⟨x2, c2, e2⟩ := slice_anyU hT.op
  have HNN : Hid _ := own_neH hT.nd hr (by decide)
  have HNO : Hid _ := own_neH hT.op hr (by decide)
  subst e1
  subst e2
  have r0 : w1.cell? ⟨w.heap.size, 0, none⟩ = some (.slice none 0 0) := by rw [blk_cell hr]; rfl
  have r1 : w1.cell? ⟨w.heap.size, 1, none⟩ = some (.slice none 0 0) := by rw [blk_cell hr]; rfl
  have f0 := blk_free hr 0
  have f1 := blk_free hr 1
  have hW := blk_alloc (.cells #[.slice x1 ns.length c1, .slice x2 (opn e 0).length c2] 59) (blk_set (blk_set hr 0 (.slice x1 ns.length c1)) 1 (.slice x2 (opn e 0).length c2))
  have S0 : Hid ((((w1.setCell ⟨w.heap.size, 0, none⟩ (.slice x1 ns.length c1)).setCell ⟨w.heap.size, 1, none⟩ (.slice x2 (opn e 0).length c2)).alloc (.cells #[.slice x1 ns.length c1, .slice x2 (opn e 0).length c2] 59)).cell? ⟨w.heap.size, 0, none⟩ = some (.slice x1 ns.length c1)) := (blk_cell hW 0).trans rfl
  have S1 : Hid ((((w1.setCell ⟨w.heap.size, 0, none⟩ (.slice x1 ns.length c1)).setCell ⟨w.heap.size, 1, none⟩ (.slice x2 (opn e 0).length c2)).alloc (.cells #[.slice x1 ns.length c1, .slice x2 (opn e 0).length c2] 59)).cell? ⟨w.heap.size, 1, none⟩ = some (.slice x2 (opn e 0).length c2)) := (blk_cell hW 1).trans rfl
  have hTS : TreeIn ((w1.setCell ⟨w.heap.size, 0, none⟩ (.slice x1 ns.length c1)).setCell ⟨w.heap.size, 1, none⟩ (.slice x2 (opn e 0).length c2)) (.slice x1 ns.length c1) (.slice x2 (opn e 0).length c2) ns (opn e 0) := ⟨owns_blk hT.nd (fun k hk => by rw [blk_other _ _ (by simpa using HNN.out k hk), blk_other _ _ (by simpa using HNN.out k hk)]), owns_blk hT.op (fun k hk => by rw [blk_other _ _ (by simpa using HNO.out k hk), blk_other _ _ (by simpa using HNO.out k hk)])⟩
  have HTS : Hid _ := hTS.below ((Below.refl _ _).alloc (Nat.le_refl _) (.cells #[.slice x1 ns.length c1, .slice x2 (opn e 0).length c2] 59))
  have hne : w.heap.size ≠ w1.heap.size := by omega
  unfold treeV
  clear hT hb hr hpp hW hTS
  go_wp2
  refine bodyPost_ret (v := .tuple #[.agg #[.slice x1 ns.length c1, .slice x2 (opn e 0).length c2], .int .i64 0, .int .i64 0]) (by have s0 := S0.out; have s1 := S1.out; simp [results, Tryz.results54, go_sem, s0, s1]) rfl ⟨x1, ns.length, c1, x2, (opn e 0).length, c2, ns, rfl, ?_, HTS.out, HNA.out⟩
  exact ((HB.out.setCell (p := ⟨w.heap.size, 0, none⟩) (Nat.le_refl _) _).setCell (p := ⟨w.heap.size, 1, none⟩) (Nat.le_refl _) _).alloc (by have := HB.out.size; simp [World.setCell]; omega) _
set_option maxRecDepth 100000 in
set_option maxHeartbeats 4000000 in
theorem readPlaced_full (s : ByteArray) (w : World) (hs : s.size ≤ 9000) (e : PT) (hp : PE true (tokens s.data.toList) e []) : Calls Tryz.prog 42 #[.string s] w fun v w' => ∃ x1 n1 c1 x2 n2 c2 ns, v = .returned (.tuple #[treeV (.slice x1 n1 c1) (.slice x2 n2 c2), .int .i64 (chkAns e).1, .int .i64 (chkAns e).2]) ∧ Below w.heap.size w w' ∧ TreeIn w' (.slice x1 n1 c1) (.slice x2 n2 c2) ns (opn e 0) ∧ NA [] e 0 ns := by
 have hcnt := Study_len hp
 have hpp := fun w => parsePlaced_full s w hs e hp
 have hpr := fun (w : World) (nv ov : Value) (ns : List NR) (hna : NA [] e 0 ns) (h : TreeIn w nv ov ns (opn e 0)) => Program_any w nv ov ns (opn e 0) h (op_ok hna) (by have := hna.len; omega) (hna.small (fun _ h => by simp at h) (by omega)) (fun j n hj => by have := hna.back j n hj; simpa using this)
 unfold treeV at hpp
 have HPR : Hid _ := hpr
 have HPP : Hid _ := hpp
 clear hp hpr hpp
 obtain ⟨ans, hans⟩ : ∃ ans, ans = chkAns e := ⟨_, rfl⟩
 rw [← hans]
 have HANS : Hid _ := hans
 clear hans
 go_enter Tryz.func42, Tryz.ntmps42
 go_wp2_with fail
 refine (HPP.out _).mono ?_
 rintro _ w1 ⟨x1, n1, c1, x2, n2, c2, ns, rfl, hb, hT, hna⟩
 have hr := kept1 hb
 have hlt := blk_lt hr
 have HB : Hid _ := below1 hb
 have HR : Hid _ := hr
 have HNN : Hid _ := own_neH hT.nd hr (by decide)
 have HNO : Hid _ := own_neH hT.op hr (by decide)
 have hT1 := hT.below ((Below.refl _ w1).alloc (Nat.le_refl _) (.cells #[.slice x1 n1 c1, .slice x2 n2 c2] 59))
 have hpr := HPR.out (w1.alloc (.cells #[.slice x1 n1 c1, .slice x2 n2 c2] 59)) _ _ ns hna hT1
 rw [prog_ans hna, ← HANS.out] at hpr
 have HNA : Hid _ := hna
 unfold treeV at hpr
 clear hT hb hr HPP HPR hna
 go_wp2_with fail
 refine hpr.mono ?_
 rintro _ w2 ⟨rfl, hb2⟩
 have HT2 : Hid _ := hT1.below hb2
 have hk := kept1 hb2
 have k0 : w2.cell? ⟨w1.heap.size, 0, none⟩ = some (.slice x1 n1 c1) := by rw [blk_cell hk]; rfl
 have k1 : w2.cell? ⟨w1.heap.size, 1, none⟩ = some (.slice x2 n2 c2) := by rw [blk_cell hk]; rfl
 have hr2 : w2.heap[w.heap.size]? = some (.cells #[.slice none 0 0, .slice none 0 0] 59 (0, 0)) := by
  rw [hb2.block _ (by simp; omega)]; exact blk_alloc _ HR.out
 have r0 : w2.cell? ⟨w.heap.size, 0, none⟩ = some (.slice none 0 0) := by rw [blk_cell hr2]; rfl
 have r1 : w2.cell? ⟨w.heap.size, 1, none⟩ = some (.slice none 0 0) := by rw [blk_cell hr2]; rfl
 have f0 := blk_free hr2 0
 have f1 := blk_free hr2 1
 have hB2 : Below w.heap.size w w2 := HB.out.trans ((below1 hb2).mono HB.out.size)
 have HB2 : Hid _ := hB2
 have hne : w.heap.size ≠ w1.heap.size := by omega
 clear hk hr2 hb2 hB2 hpr hT1
 go_wp2
 refine bodyPost_ret (v := .tuple #[.agg #[.slice x1 n1 c1, .slice x2 n2 c2], .int .i64 ans.1, .int .i64 ans.2]) (by simp [results, Tryz.results42, go_sem, r0, r1]) rfl ⟨x1, n1, c1, x2, n2, c2, ns, rfl, ?_, ⟨owns_blk HT2.out.nd (fun k hk => by rw [blk_other _ _ (by simpa using HNN.out k hk), blk_other _ _ (by simpa using HNN.out k hk)]), owns_blk HT2.out.op (fun k hk => by rw [blk_other _ _ (by simpa using HNO.out k hk), blk_other _ _ (by simpa using HNO.out k hk)])⟩, HNA.out⟩
 exact (HB2.out.setCell (p := ⟨w.heap.size, 0, none⟩) (Nat.le_refl _) _).setCell (p := ⟨w.heap.size, 1, none⟩) (Nat.le_refl _) _
set_option maxRecDepth 100000 in
set_option maxHeartbeats 4000000 in
theorem leaseRun_ok (s : ByteArray) (fuel : Int) (w : World) (e : PT) (y : Nat) (S : ByteArray) (a b c d E : Int) (hrd : ∀ w, Calls Tryz.prog 42 #[.string s] w fun v w' => ∃ x1 n1 c1 x2 n2 c2 ns, v = .returned (.tuple #[treeV (.slice x1 n1 c1) (.slice x2 n2 c2), .int .i64 0, .int .i64 y]) ∧ Below w.heap.size w w' ∧ TreeIn w' (.slice x1 n1 c1) (.slice x2 n2 c2) ns (opn e 0) ∧ NA [] e 0 ns)
  (hrn : ∀ (w' : World) (x1 : Option Addr) (n1 c1 : Nat) (x2 : Option Addr) (n2 c2 : Nat) (ns : List NR), Below w.heap.size w w' → TreeIn w' (.slice x1 n1 c1) (.slice x2 n2 c2) ns (opn e 0) → NA [] e 0 ns → Calls Tryz.prog 32 #[treeV (.slice x1 n1 c1) (.slice x2 n2 c2), .int .i64 fuel] w' fun v w'' => v = .returned (.tuple #[.agg #[.string S, .int .i64 a, .int .i64 b, .int .i64 c, .int .i64 d], .int .i64 E]) ∧ Below w'.heap.size w' w'') :
  Calls Tryz.prog 18 #[.string s, .int .i64 fuel] w fun v w' => v = .returned (.tuple #[.agg #[.string S, .int .i64 a, .int .i64 b, .int .i64 c, .int .i64 d], .int .i64 E]) ∧ Below w.heap.size w w' := by
 unfold treeV at hrd hrn
 have HR : Hid _ := hrd
 have HN : Hid _ := hrn
 clear hrd hrn
 go_enter Tryz.func18, Tryz.ntmps18
 go_wp2_with fail
 refine (HR.out _).mono ?_
 rintro _ w1 ⟨x1, n1, c1, x2, n2, c2, ns, rfl, hb, hT, hna⟩
 have hq : w1.heap[w.heap.size]? = some (.cells #[.string ⟨#[]⟩, .int .i64 0, .int .i64 0, .int .i64 0, .int .i64 0] 23) := kept1 hb
 have hB := below1 hb
 obtain ⟨W2, hE2⟩ : ∃ W2, W2 = w1.alloc (.cells #[.slice x1 n1 c1, .slice x2 n2 c2] 59) := ⟨_, rfl⟩
 have hb2 : Below w1.heap.size w1 W2 := by rw [hE2]; exact below_al (Below.refl _ _) _
 have hrn2 := HN.out W2 x1 n1 c1 x2 n2 c2 ns (hB.trans (hb2.mono hB.size)) (hT.below hb2) hna
 have HRN : Hid _ := hrn2
 have HB2 : Hid _ := hB.trans (hb2.mono hB.size)
 have HQ2 : Hid (W2.heap[w.heap.size]? = some (.cells #[.string ⟨#[]⟩, .int .i64 0, .int .i64 0, .int .i64 0, .int .i64 0] 23)) := by
  show W2.heap[w.heap.size]? = _
  rw [hb2.block _ (blk_lt hq)]; exact hq
 clear hb hT hna hq hB hb2 hrn2 HR HN
 go_wp2_with fail
 rw [← hE2]
 refine Calls.mono HRN.out ?_
 rintro _ w3 ⟨rfl, hb3⟩
 have hq3 : w3.heap[w.heap.size]? = some (.cells #[.string ⟨#[]⟩, .int .i64 0, .int .i64 0, .int .i64 0, .int .i64 0] 23) := by rw [hb3.block _ (blk_lt HQ2.out)]; exact HQ2.out
 have HB3 : Hid _ := HB2.out.trans (hb3.mono HB2.out.size)
 clear hb3 HRN HB2 HQ2 hE2
 go_wp2_with (refine st_row rfl 23 (.tmp 4) (.tmp 22) rfl w.heap.size #[.string S, .int .i64 a, .int .i64 b, .int .i64 c, .int .i64 d] rfl rfl 23 _ hq3 Tryz.infoRes rfl (by simp [Value.oneCell']) ?_; intro W hW hWs hWo hW1 hW2 hW3)
 obtain ⟨s0, s1, s2, s3, s4⟩ := res_cells hW
 have HBN : Hid _ := below_new HB3.out (Nat.le_refl _) hWs hWo hW1 hW2 hW3
 clear hW hWs hWo hW1 hW2 hW3 HB3 hq3
 go_wp2
 refine bodyPost_ret (v := .tuple #[.agg #[.string S, .int .i64 a, .int .i64 b, .int .i64 c, .int .i64 d], .int .i64 E]) (by simp [results, Tryz.results18, go_sem, s0, s1, s2, s3, s4]) rfl ⟨rfl, HBN.out⟩
end Go.Proofs.YtpicaknklgccoaaGreatDoor
