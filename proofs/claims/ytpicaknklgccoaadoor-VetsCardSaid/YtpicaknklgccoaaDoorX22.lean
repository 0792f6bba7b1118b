import Derived.Test.YtpicaknklgccoaaDoorX21
import Derived.Test.YtpicaknklgccoaaDoorX10
namespace Go.Proofs.YtpicaknklgccoaaDoor
open Go.RowKit
theorem below_dU (w : World) (m : Nat) : Below w.heap.size w (w.drewN m) := ⟨rfl, rfl, rfl, Nat.le_refl _, fun _ _ => rfl⟩
def Ty.has (T : Ty) (rg : Int) : Bool := T.rgl.any (fun x => (x : Int) == rg)
theorem any_step {l : List Nat} {p : Nat → Bool} {j : Nat} (hj : j < l.length) : (l.drop j).any p = (p l[j] || (l.drop (j + 1)).any p) := by
 rw [List.drop_eq_getElem_cons hj, List.any_cons]
set_option maxRecDepth 100000 in
set_option maxHeartbeats 1000000 in
theorem mentions_any (T : Ty) (hT : T.fit) (rg : Int) (w : World) : Calls Tryd.prog 24 #[.string (bs T.txt), .int .i64 rg] w fun e w' => e = .returned (.bool (T.has rg)) ∧ Below w.heap.size w w' := by
 have hre := fun w => regions_any T hT w
 have hrl : T.rgl.length ≤ 127 := by
  have h1 : ∀ T : Ty, T.rgl.length = T.size := by
   intro T; induction T with
   | n => rfl
   | p r a b iha ihb => simp only [Ty.rgl, Ty.size, List.length_cons, List.length_append, iha, ihb]
  rw [h1]; exact hT.1
 obtain ⟨ans, hans⟩ : ∃ ans, ans = T.has rg := ⟨_, rfl⟩
 rw [← hans]
 have HANS : Hid _ := hans
 clear hans hT
 unfold Ty.has at HANS
 generalize T.rgl = R at *
 go_enter Tryd.func24, Tryd.ntmps24
 go_wp2_with fail
 refine (hre _).mono ?_
 rintro _ w1 ⟨v, rfl, hown, hb⟩
 have HB : Hid _ := hb
 obtain ⟨va, vc, hv⟩ : ∃ va vc, v = .slice va R.length vc := by
  rcases hown.2 with ⟨h1, h2⟩ | ⟨g, cap, cur, h1, _⟩
  ·exact ⟨none, 0, by rw [h1, h2]⟩
  ·exact ⟨_, _, h1⟩
 have HAT : Hid (∀ j, (hj : j < R.length) → ∃ g, va = some ⟨g, 0, none⟩ ∧ g < w1.heap.size ∧ w1.cell? ⟨g, j, none⟩ = some (.int .i64 R[j])) := by
  intro j hj
  rcases hown.2 with ⟨h1, h2⟩ | ⟨g, cap, cur, h1, _⟩
  ·omega
  ·rw [hv] at h1
   simp only [Value.slice.injEq] at h1
   have hr := hown
   rw [hv, h1.1] at hr
   have hc : w1.cell? ⟨g, j, none⟩ = some (.int .i64 R[j]) := by rw [hr.cellAt j (by omega), List.getElem?_map, List.getElem?_eq_getElem hj]; rfl
   exact ⟨g, h1.1, World.block_lt_of_cell? _ _ hc, hc⟩
 subst hv
 clear hown hb hre
 go_wp2
 go_loopw [6] (fun i wr => ∃ j : Nat, w1 = wr ∧ j ≤ R.length ∧ i = .int .i64 j ∧ R.any (fun x => (x : Int) == rg) = (R.drop j).any (fun x => (x : Int) == rg)) (fun i _ => R.length - (intOf i).toNat)
 case atStart => exact ⟨0, rfl, Nat.zero_le _, rfl, rfl⟩
 case round =>
  obtain ⟨j, rfl, hj, rfl, hany⟩ := hrel
  have HA : Hid _ := hany
  clear hany
  by_cases hlt : j < R.length
  ·obtain ⟨g, hg, hgl, hc⟩ := HAT.out j hlt
   subst hg
   have hst := any_step (p := fun x => (x : Int) == rg) hlt
   obtain ⟨x, hx⟩ : ∃ x, x = R[j] := ⟨_, rfl⟩
   rw [← hx] at hc hst
   clear hx
   cases hq : ((x : Int) == rg) with
   | true =>
    have HF : Hid (ans = true) := by rw [HANS.out, HA.out, hst, hq]; exact rfl
    clear hst
    go_wp2
    go_ret
    exact ⟨by rw [HF.out]; rfl, HB.out⟩
   | false =>
    have HS : Hid ((R.drop j).any (fun x => (x : Int) == rg) = (R.drop (j + 1)).any (fun x => (x : Int) == rg)) := by rw [hst, hq]; exact rfl
    clear hst
    go_wp2
    go_roundw
    case rel => exact ⟨j + 1, by first | rfl | trivial, by omega, by go_num, by rw [HA.out, HS.out]⟩
    case measure => simp [intOf]; omega
  ·have HF : Hid (ans = false) := by rw [HANS.out, HA.out, List.drop_eq_nil_of_le (by omega)]; exact rfl
   go_wp2
   go_ret
   exact ⟨by rw [HF.out]; rfl, HB.out⟩
structure LIn (w : World) (g : Nat) (rl : List Rec) : Prop where
 gl : g < w.heap.size
 at_ : ∀ (i : Nat) (r : Rec), rl[i]? = some r → ∃ b, w.cell? ⟨g, i, none⟩ = some (.pointer (some ⟨b, 0, none⟩)) ∧ isRec w b r
 sm : ∀ r ∈ rl, r.id ≤ 9000 ∧ r.last ≤ 9000 ∧ r.p ≤ 9000
theorem LIn.drew {w : World} {g : Nat} {rl : List Rec} (h : LIn w g rl) (m : Nat) : LIn (w.drewN m) g rl := ⟨h.gl, h.at_, h.sm⟩
theorem rec_cells {w : World} {b : Nat} {r : Rec} (h : isRec w b r) : w.cell? ⟨b, 0, none⟩ = some (.string (bs r.op)) ∧ w.cell? ⟨b, 1, none⟩ = some (.int .i64 r.p) ∧ w.cell? ⟨b, 3, none⟩ = some (.int .i64 r.n) ∧ w.cell? ⟨b, 5, none⟩ = some (.int .i64 r.id) ∧ w.cell? ⟨b, 6, none⟩ = some (.int .i64 r.last) ∧ b < w.heap.size := by
 obtain ⟨kv, hb⟩ := h
 exact ⟨by rw [blk_cell hb]; rfl, by rw [blk_cell hb]; rfl, by rw [blk_cell hb]; rfl, by rw [blk_cell hb]; rfl, by rw [blk_cell hb]; rfl, blk_lt hb⟩
def isP (w : World) (g : Nat) (best : Option Nat) (p : Option Addr) : Prop := match best with
 | none => p = none
 | some i => w.cell? ⟨g, i, none⟩ = some (.pointer p)
def better (rl : List Rec) (best : Option Nat) (r : Rec) : Bool := match best with
 | none => true
 | some b => match rl[b]? with
  | some rb => decide (r.id < rb.id)
  | none => true
def isNew (r : Rec) : Bool := r.op == [110, 101, 119]
def isPr (r : Rec) : Bool := r.op == [112, 97, 105, 114]
def openS (rl : List Rec) (rg : Int) (best : Option Nat) (i : Nat) : Option Nat := match rl[i]? with
 | some r => if isNew r && (r.n == rg) && better rl best r then some i else best
 | none => best
def openF (rl : List Rec) (rg : Int) : Nat → Option Nat
 | 0 => none
 | k + 1 => openS rl rg (openF rl rg k) k
theorem openF_lt (rl : List Rec) (rg : Int) : ∀ k b, k ≤ rl.length → openF rl rg k = some b → b < k
 | 0, b, _, h => by simp [openF] at h
 | k + 1, b, hk, h => by
  simp only [openF, openS] at h
  rw [List.getElem?_eq_getElem (by omega)] at h
  simp only at h
  split at h
  ·cases h; omega
  ·have := openF_lt rl rg k b (by omega) h; omega
theorem best_at {w : World} {g : Nat} {rl : List Rec} (h : LIn w g rl) {best : Option Nat} {p : Option Addr} (hp : isP w g best p) (hb : ∀ b, best = some b → b < rl.length) :
  (best = none ∧ p = none) ∨ ∃ i b rb, best = some i ∧ p = some ⟨b, 0, none⟩ ∧ rl[i]? = some rb ∧ isRec w b rb := by
 cases best with
 | none => exact Or.inl ⟨rfl, hp⟩
 | some i =>
  have hi := hb i rfl
  obtain ⟨b, h1, h2⟩ := h.at_ i rl[i] (List.getElem?_eq_getElem hi)
  simp only [isP] at hp
  rw [h1] at hp
  simp only [Option.some.injEq, Value.pointer.injEq] at hp
  exact Or.inr ⟨i, b, rl[i], rfl, hp.symm, List.getElem?_eq_getElem hi, h2⟩
set_option maxRecDepth 100000 in
set_option maxHeartbeats 4000000 in
theorem opened_any (w : World) (g cap : Nat) (rl : List Rec) (rg : Int) (h : LIn w g rl) (hl : rl.length ≤ 9000) :
  Calls Tryd.prog 38 #[.slice (some ⟨g, 0, none⟩) rl.length cap, .int .i64 rg] w fun e w' => ∃ p m, e = .returned (.pointer p) ∧ isP w g (openF rl rg rl.length) p ∧ w' = w.drewN m := by
 have HL : Hid _ := h
 have hg := h.gl
 clear h
 go_enter Tryd.func38, Tryd.ntmps38
 go_wp2
 go_loopw [5, 6] (fun best i wr => ∃ (k m : Nat) (p : Option Addr), wr = w.drewN m ∧ k ≤ rl.length ∧ i = .int .i64 k ∧ best = .pointer p ∧ isP w g (openF rl rg k) p) (fun _ i _ => rl.length - (intOf i).toNat)
 case atStart => exact ⟨0, 0, none, rfl, Nat.zero_le _, rfl, rfl, rfl⟩
 case round =>
  obtain ⟨k, m, p, rfl, hk, rfl, rfl, hp⟩ := hrel
  by_cases hlt : k < rl.length
  ·obtain ⟨b, c1, hrec⟩ := HL.out.at_ k rl[k] (List.getElem?_eq_getElem hlt)
   obtain ⟨a0, a1, a3, a5, a6, hbl⟩ := rec_cells hrec
   have hstep : openF rl rg (k + 1) = if isNew rl[k] && (rl[k].n == rg) && better rl (openF rl rg k) rl[k] then some k else openF rl rg k := by
    simp only [openF, openS]; rw [List.getElem?_eq_getElem hlt]
   have hbest := best_at HL.out hp (fun b hb => by have := openF_lt rl rg k b (by omega) hb; omega)
   have hsm := HL.out.sm rl[k] (List.getElem_mem hlt)
   obtain ⟨r, hr⟩ : ∃ r, r = rl[k] := ⟨_, rfl⟩
   rw [← hr] at a0 a1 a3 a5 a6 hstep hsm
   have hnew : ((bs r.op).toList == [110, 101, 119]) = isNew r := by rw [bs_beq0]; rfl
   have HC1 : Hid _ := c1
   have HPP : Hid _ := hp
   clear hr hrec hp a1 a6
   have next : ∀ (b2 : Bool), (isNew r && (r.n == rg) && better rl (openF rl rg k) r) = b2 → Hid (openF rl rg (k + 1) = if b2 then some k else openF rl rg k) := by
    intro b2 h2; rw [hstep, h2]; exact rfl
   have HNX : Hid _ := next
   clear next hstep
   cases hn : isNew r with
   | false =>
    rw [hn] at hnew
    have HS : Hid _ := (HNX.out false (by rw [hn]; rfl)).out
    clear hn hbest HNX
    go_wp2
    go_quiet (fail)
    go_wp2
    go_roundw
    case rel => exact ⟨k + 1, _, p, rfl, by omega, by go_num, rfl, by rw [HS.out]; exact HPP.out⟩
    case measure => simp [intOf]; omega
   | true =>
    rw [hn] at hnew
    cases hrg : (r.n == rg) with
    | false =>
     have HS : Hid _ := (HNX.out false (by rw [hn, hrg]; rfl)).out
     clear hn hbest HNX
     go_wp2
     go_quiet (fail)
     go_wp2
     go_roundw
     case rel => exact ⟨k + 1, _, p, rfl, by omega, by go_num, rfl, by rw [HS.out]; exact HPP.out⟩
     case measure => simp [intOf]; omega
    | true =>
     rcases hbest with ⟨hb0, rfl⟩ | ⟨i, bb, rb, hb0, rfl, hri, hrb⟩
     ·have HS : Hid _ := (HNX.out true (by rw [hn, hrg, hb0]; rfl)).out
      clear hn HNX hb0
      go_wp2
      go_quiet (fail)
      go_wp2
      go_roundw
      case rel => exact ⟨k + 1, _, _, rfl, by omega, by go_num, rfl, by rw [HS.out]; exact HC1.out⟩
      case measure => simp [intOf]; omega
     ·obtain ⟨_, _, _, d5, _, hbbl⟩ := rec_cells hrb
      by_cases hid : r.id < rb.id
      ·have HS : Hid _ := (HNX.out true (by rw [hn, hrg, hb0]; simp only [better]; rw [hri]; simp [hid])).out
       have hidz : (r.id : Int) < (rb.id : Int) := by omega
       clear hn HNX hb0 hri hrb hid
       go_wp2
       go_quiet (fail)
       go_wp2
       go_roundw
       case rel => exact ⟨k + 1, _, _, rfl, by omega, by go_num, rfl, by rw [HS.out]; exact HC1.out⟩
       case measure => simp [intOf]; omega
      ·have HS : Hid _ := (HNX.out false (by rw [hn, hrg, hb0]; simp only [better]; rw [hri]; simp; omega)).out
       have hidz : ¬ (r.id : Int) < (rb.id : Int) := by omega
       clear hn HNX hb0 hri hrb hid
       go_wp2
       go_quiet (fail)
       go_wp2
       go_roundw
       case rel => exact ⟨k + 1, _, _, rfl, by omega, by go_num, rfl, by rw [HS.out]; exact HPP.out⟩
       case measure => simp [intOf]; omega
  ·have hke : k = rl.length := by omega
   have HP : Hid (isP w g (openF rl rg rl.length) p) := by rw [← hke]; exact hp
   clear hp hke
   go_wp2
   go_ret
   exact ⟨p, _, rfl, HP.out, rfl⟩
def leftF (rl : List Rec) (best : Option Nat) (i : Nat) : Option Nat := match rl[i]? with
 | some r => if better rl best r then some i else best
 | none => best
theorem leftF_lt {rl : List Rec} {best : Option Nat} {i : Nat} (hb : ∀ b, best = some b → b < rl.length) (hi : i < rl.length) : ∀ b, leftF rl best i = some b → b < rl.length := by
 intro b h
 unfold leftF at h
 rw [List.getElem?_eq_getElem hi] at h
 simp only at h
 split at h
 ·cases h; exact hi
 ·exact hb b h
set_option maxRecDepth 100000 in
set_option maxHeartbeats 1000000 in
theorem leftmost_any (w : World) (g : Nat) (rl : List Rec) (h : LIn w g rl) (best : Option Nat) (p q : Option Addr) (i : Nat) (hi : i < rl.length) (hp : isP w g best p) (hb : ∀ b, best = some b → b < rl.length) (hq : w.cell? ⟨g, i, none⟩ = some (.pointer q)) (m0 : Nat) :
  Calls Tryd.prog 39 #[.pointer p, .pointer q] (w.drewN m0) fun e w' => ∃ p' m, e = .returned (.pointer p') ∧ isP w g (leftF rl best i) p' ∧ w' = w.drewN m := by
 obtain ⟨b, c1, hrec⟩ := h.at_ i rl[i] (List.getElem?_eq_getElem hi)
 obtain ⟨_, _, _, a5, _, hbl⟩ := rec_cells hrec
 rw [c1] at hq
 simp only [Option.some.injEq, Value.pointer.injEq] at hq
 subst hq
 have hsm := h.sm rl[i] (List.getElem_mem hi)
 have hstep : leftF rl best i = if better rl best rl[i] then some i else best := by unfold leftF; rw [List.getElem?_eq_getElem hi]
 rcases best_at h hp hb with ⟨hb0, rfl⟩ | ⟨j, bb, rb, hb0, rfl, hri, hrb⟩
 ·have HS : Hid (leftF rl best i = some i) := by rw [hstep, hb0]; exact rfl
  have HC : Hid _ := c1
  clear hstep h hrec hp hb hb0
  generalize rl[i] = r at *
  go_enter Tryd.func39, Tryd.ntmps39
  go_wp2
  go_quiet (fail)
  go_wp2
  go_ret
  exact ⟨_, _, rfl, by rw [HS.out]; exact HC.out, World.drewN_drewN _ _ _⟩
 ·obtain ⟨_, _, _, d5, _, hbbl⟩ := rec_cells hrb
  have hbt : better rl best rl[i] = decide (rl[i].id < rb.id) := by rw [hb0]; simp only [better]; rw [hri]
  rw [hbt] at hstep
  have HC : Hid _ := c1
  have HPP : Hid _ := hp
  have HST : Hid _ := hstep
  clear h hrec hp hb hrb hbt hstep hri
  generalize rl[i] = r at *
  by_cases hid : r.id < rb.id
  ·have HS : Hid (leftF rl best i = some i) := by rw [HST.out, if_pos (by simpa using hid)]; exact rfl
   have hidz : (r.id : Int) < (rb.id : Int) := by omega
   clear hid HST hb0
   go_enter Tryd.func39, Tryd.ntmps39
   go_wp2
   go_quiet (fail)
   go_wp2
   go_ret
   exact ⟨_, _, rfl, by rw [HS.out]; exact HC.out, World.drewN_drewN _ _ _⟩
  ·have HS : Hid (leftF rl best i = best) := by rw [HST.out, if_neg (by simpa using hid)]; exact rfl
   have hidz : ¬ (r.id : Int) < (rb.id : Int) := by omega
   clear hid HST hb0
   go_enter Tryd.func39, Tryd.ntmps39
   go_wp2
   go_quiet (fail)
   go_wp2
   go_ret
   exact ⟨_, _, rfl, by rw [HS.out]; exact HPP.out, World.drewN_drewN _ _ _⟩
def isTw (rl : List Rec) (r : Rec) : Bool := match openF rl r.n rl.length with
 | some o => match rl[o]? with
  | some ro => isNew r && (r.id != ro.id)
  | none => false
 | none => false
def isOut (rl : List Rec) (r : Rec) : Bool := match openF rl r.n rl.length with
 | some o => match rl[o]? with
  | some ro => isPr r && (decide (r.id < ro.id) || decide (ro.last < r.id))
  | none => false
 | none => false
def twF (rl : List Rec) : Nat → Option Nat
 | 0 => none
 | k + 1 => match rl[k]? with
  | some r => if isTw rl r then leftF rl (twF rl k) k else twF rl k
  | none => twF rl k
def outR (rl : List Rec) : Nat → Option Nat
 | 0 => none
 | k + 1 => match rl[k]? with
  | some r => if isOut rl r then leftF rl (outR rl k) k else outR rl k
  | none => outR rl k
theorem twF_lt (rl : List Rec) : ∀ k, k ≤ rl.length → ∀ b, twF rl k = some b → b < rl.length
 | 0, _, b, h => by simp [twF] at h
 | k + 1, hk, b, h => by
  have hlt : k < rl.length := by omega
  simp only [twF] at h
  rw [List.getElem?_eq_getElem hlt] at h
  simp only at h
  split at h
  ·exact leftF_lt (twF_lt rl k (by omega)) hlt b h
  ·exact twF_lt rl k (by omega) b h
theorem outR_lt (rl : List Rec) : ∀ k, k ≤ rl.length → ∀ b, outR rl k = some b → b < rl.length
 | 0, _, b, h => by simp [outR] at h
 | k + 1, hk, b, h => by
  have hlt : k < rl.length := by omega
  simp only [outR] at h
  rw [List.getElem?_eq_getElem hlt] at h
  simp only at h
  split at h
  ·exact leftF_lt (outR_lt rl k (by omega)) hlt b h
  ·exact outR_lt rl k (by omega) b h
def scopesAns (rl : List Rec) : Nat × Nat := match twF rl rl.length with
 | some i => (7, ((rl[i]?).map (·.p)).getD 0)
 | none => match outR rl rl.length with
  | some i => (8, ((rl[i]?).map (·.p)).getD 0)
  | none => (0, 0)
set_option maxRecDepth 100000 in
set_option maxHeartbeats 4000000 in
theorem scopes_any (w : World) (g cap : Nat) (rl : List Rec) (h : LIn w g rl) (hl : rl.length ≤ 9000) :
  Calls Tryd.prog 23 #[.slice (some ⟨g, 0, none⟩) rl.length cap] w fun e w' => ∃ m, e = .returned (.tuple #[.int .i64 (scopesAns rl).1, .int .i64 (scopesAns rl).2]) ∧ w' = w.drewN m := by
 have hop := fun rg m => opened_any (w.drewN m) g cap rl rg (h.drew m) hl
 have HOP : Hid _ := hop
 have HLE : Hid _ := fun best p q i hi hp hb hq m => leftmost_any w g rl h best p q i hi hp hb hq m
 have HL : Hid _ := h
 have hg := h.gl
 obtain ⟨ans, hans⟩ : ∃ ans, ans = scopesAns rl := ⟨_, rfl⟩
 rw [← hans]
 have HANS : Hid _ := hans
 clear h hop hans
 go_enter Tryd.func23, Tryd.ntmps23
 go_wp2
 go_loopw [4, 5, 6] (fun tw out i wr => ∃ (k m : Nat) (p q : Option Addr), wr = w.drewN m ∧ k ≤ rl.length ∧ i = .int .i64 k ∧ tw = .pointer p ∧ out = .pointer q ∧ isP w g (twF rl k) p ∧ isP w g (outR rl k) q) (fun _ _ i _ => rl.length - (intOf i).toNat)
 case atStart => exact ⟨0, 0, none, none, rfl, Nat.zero_le _, rfl, rfl, rfl, rfl, rfl⟩
 case round =>
  obtain ⟨k, m, p, q, rfl, hk, rfl, rfl, rfl, hp, hq⟩ := hrel
  by_cases hlt : k < rl.length
  ·obtain ⟨b, c1, hrec⟩ := HL.out.at_ k rl[k] (List.getElem?_eq_getElem hlt)
   obtain ⟨a0, a1, a3, a5, a6, hbl⟩ := rec_cells hrec
   have hst1 : twF rl (k + 1) = if isTw rl rl[k] then leftF rl (twF rl k) k else twF rl k := by simp only [twF]; rw [List.getElem?_eq_getElem hlt]
   have hst2 : outR rl (k + 1) = if isOut rl rl[k] then leftF rl (outR rl k) k else outR rl k := by simp only [outR]; rw [List.getElem?_eq_getElem hlt]
   have hsm := HL.out.sm rl[k] (List.getElem_mem hlt)
   obtain ⟨r, hr⟩ : ∃ r, r = rl[k] := ⟨_, rfl⟩
   rw [← hr] at a0 a1 a3 a5 a6 hst1 hst2 hsm
   have hnew : ((bs r.op).toList == [110, 101, 119]) = isNew r := by rw [bs_beq0]; rfl
   have hpr : ((bs r.op).toList == [112, 97, 105, 114]) = isPr r := by rw [bs_beq0]; rfl
   have ho := HOP.out r.n m
   have HS1 : Hid _ := hst1
   have HS2 : Hid _ := hst2
   have HP : Hid _ := hp
   have HQ : Hid _ := hq
   have HC1 : Hid _ := c1
   clear hr hrec hst1 hst2 hp hq
   go_wp2_with fail
   refine ho.mono ?_
   rintro _ _ ⟨po, m1, rfl, hpo, rfl⟩
   have hobest := best_at HL.out (p := po) hpo (fun b hb => openF_lt rl r.n rl.length b (Nat.le_refl _) hb)
   clear ho hpo
   rcases hobest with ⟨hb0, rfl⟩ | ⟨j, bb, ro, hb0, rfl, hri, hro⟩
   ·have HT : Hid (isTw rl r = false) := by unfold isTw; rw [hb0]; exact rfl
    have HO : Hid (isOut rl r = false) := by unfold isOut; rw [hb0]; exact rfl
    clear hb0
    go_wp2
    go_roundw
    case rel => exact ⟨k + 1, _, p, q, rfl, by omega, by go_num, rfl, rfl, by rw [HS1.out, HT.out]; exact HP.out, by rw [HS2.out, HO.out]; exact HQ.out⟩
    case measure => simp [intOf]; omega
   ·obtain ⟨_, _, _, d5, d6, hbbl⟩ := rec_cells hro
    have hT : isTw rl r = (isNew r && (r.id != ro.id)) := by unfold isTw; rw [hb0]; simp only; rw [hri]
    have hO : isOut rl r = (isPr r && (decide (r.id < ro.id) || decide (ro.last < r.id))) := by unfold isOut; rw [hb0]; simp only; rw [hri]
    have hsmo := HL.out.sm ro (List.mem_of_getElem? hri)
    have HT : Hid _ := hT
    have HO : Hid _ := hO
    have hexcl : isNew r = true → isPr r = false := by
     intro h1; unfold isNew at h1; unfold isPr; rw [beq_iff_eq] at h1; rw [h1]; decide
    have HEX : Hid _ := hexcl
    clear hb0 hri hro hT hO hexcl
    have hidn : ((r.id : Int) != (ro.id : Int)) = (r.id != ro.id) := by
     by_cases e : r.id = ro.id
     ·rw [e]; simp
     ·have h1 : (r.id != ro.id) = true := by simpa using e
      rw [h1]; simp; omega
    cases hn : isNew r with
    | true =>
     have hpf := HEX.out hn
     rw [hn] at hnew
     rw [hpf] at hpr
     have HOF : Hid (isOut rl r = false) := by rw [HO.out, hpf]; exact rfl
     cases hne : (r.id != ro.id) with
     | true =>
      rw [hne] at hidn
      have HTT : Hid (isTw rl r = true) := by rw [HT.out, hn, hne]; exact rfl
      have hle := HLE.out (twF rl k) p (some ⟨b, 0, none⟩) k hlt HP.out (twF_lt rl k (by omega)) HC1.out
      clear hn hpf hne HT HO HEX
      go_wp2
      go_quiet (fail)
      go_wp2_with (go_at_call 39; refine (hle _).mono ?_; rintro _ _ ⟨p2, m2, rfl, hp2, rfl⟩)
      have HP2 : Hid _ := hp2
      clear hp2 hle
      go_quiet (fail)
      go_wp2
      go_roundw
      case rel => exact ⟨k + 1, _, p2, q, rfl, by omega, by go_num, rfl, rfl, by rw [HS1.out, HTT.out]; exact HP2.out, by rw [HS2.out, HOF.out]; exact HQ.out⟩
      case measure => simp [intOf]; omega
     | false =>
      rw [hne] at hidn
      have HTT : Hid (isTw rl r = false) := by rw [HT.out, hn, hne]; exact rfl
      clear hn hpf hne HT HO HEX
      go_wp2
      go_quiet (fail)
      go_wp2
      go_quiet (fail)
      go_wp2
      go_roundw
      case rel => exact ⟨k + 1, _, p, q, rfl, by omega, by go_num, rfl, rfl, by rw [HS1.out, HTT.out]; exact HP.out, by rw [HS2.out, HOF.out]; exact HQ.out⟩
      case measure => simp [intOf]; omega
    | false =>
     rw [hn] at hnew
     have HTT : Hid (isTw rl r = false) := by rw [HT.out, hn]; exact rfl
     have noOut : isOut rl r = false → Hid (isOut rl r = false) := fun h => h
     cases hpp : isPr r with
     | false =>
      rw [hpp] at hpr
      have HOF : Hid (isOut rl r = false) := by rw [HO.out, hpp]; exact rfl
      clear hn hpp HT HO HEX noOut
      go_wp2
      go_quiet (fail)
      go_wp2
      go_quiet (fail)
      go_wp2
      go_roundw
      case rel => exact ⟨k + 1, _, p, q, rfl, by omega, by go_num, rfl, rfl, by rw [HS1.out, HTT.out]; exact HP.out, by rw [HS2.out, HOF.out]; exact HQ.out⟩
      case measure => simp [intOf]; omega
     | true =>
      rw [hpp] at hpr
      have hle := HLE.out (outR rl k) q (some ⟨b, 0, none⟩) k hlt HQ.out (outR_lt rl k (by omega)) HC1.out
      by_cases h1 : r.id < ro.id
      ·have HOF : Hid (isOut rl r = true) := (show isOut rl r = true by rw [HO.out, hpp]; simp [h1])
       have hz : (r.id : Int) < (ro.id : Int) := by omega
       clear hn hpp HT HO HEX noOut h1
       go_wp2
       go_quiet (fail)
       go_wp2
       go_quiet (fail)
       go_wp2_with (go_at_call 39; refine (hle _).mono ?_; rintro _ _ ⟨p2, m2, rfl, hp2, rfl⟩)
       have HP2 : Hid _ := hp2
       clear hp2 hle
       go_roundw
       case rel => exact ⟨k + 1, _, p, p2, rfl, by omega, by go_num, rfl, rfl, by rw [HS1.out, HTT.out]; exact HP.out, by rw [HS2.out, HOF.out]; exact HP2.out⟩
       case measure => simp [intOf]; omega
      ·have hz : ¬ (r.id : Int) < (ro.id : Int) := by omega
       have hzd : decide ((r.id : Int) < (ro.id : Int)) = false := by simpa using hz
       have hzn : decide (r.id < ro.id) = false := by simpa using h1
       have hzf : (r.id < ro.id) = False := by simpa using h1
       have hzl : ro.id ≤ r.id := by omega
       by_cases h2 : ro.last < r.id
       ·have HOF : Hid (isOut rl r = true) := (show isOut rl r = true by rw [HO.out, hpp]; simp [h2])
        have hz2 : (ro.last : Int) < (r.id : Int) := by omega
        clear hn hpp HT HO HEX noOut h1 h2
        go_wp2
        go_quiet (fail)
        go_wp2
        go_quiet (fail)
        go_wp2_with (go_at_call 39; refine (hle _).mono ?_; rintro _ _ ⟨p2, m2, rfl, hp2, rfl⟩)
        have HP2 : Hid _ := hp2
        clear hp2 hle
        go_roundw
        case rel => exact ⟨k + 1, _, p, p2, rfl, by omega, by go_num, rfl, rfl, by rw [HS1.out, HTT.out]; exact HP.out, by rw [HS2.out, HOF.out]; exact HP2.out⟩
        case measure => simp [intOf]; omega
       ·have HOF : Hid (isOut rl r = false) := (show isOut rl r = false by rw [HO.out, hpp]; simp; omega)
        have hz2 : ¬ (ro.last : Int) < (r.id : Int) := by omega
        clear hn hpp HT HO HEX noOut h1 h2 hle
        go_wp2
        go_quiet (fail)
        go_wp2
        go_quiet (fail)
        go_wp2
        go_roundw
        case rel => exact ⟨k + 1, _, p, q, rfl, by omega, by go_num, rfl, rfl, by rw [HS1.out, HTT.out]; exact HP.out, by rw [HS2.out, HOF.out]; exact HQ.out⟩
        case measure => simp [intOf]; omega
  ·have hke : k = rl.length := by omega
   rw [hke] at hp hq
   have b1 := best_at HL.out hp (twF_lt rl rl.length (Nat.le_refl _))
   have b2 := best_at HL.out hq (outR_lt rl rl.length (Nat.le_refl _))
   clear hp hq hke
   rcases b1 with ⟨h1, rfl⟩ | ⟨i, bb, rb, h1, rfl, hri, hrb⟩
   ·rcases b2 with ⟨h2, rfl⟩ | ⟨i, bb, rb, h2, rfl, hri, hrb⟩
    ·have HA : Hid (ans = (0, 0)) := by rw [HANS.out]; unfold scopesAns; rw [h1, h2]; exact rfl
     clear h1 h2
     go_wp2
     refine bodyPost_ret (v := .tuple #[.int .i64 0, .int .i64 0]) (by simp [results, Tryd.results23, go_sem]) rfl ⟨_, by rw [HA.out]; rfl, by first | rfl | exact World.drewN_drewN _ _ _⟩
    ·obtain ⟨_, d1, _⟩ := rec_cells hrb
     have hbbl := (rec_cells hrb).2.2.2.2.2
     have HA : Hid (ans = (8, rb.p)) := by rw [HANS.out]; unfold scopesAns; rw [h1, h2]; simp only; rw [hri]; exact rfl
     clear h1 h2 hri hrb
     go_wp2
     go_quiet (fail)
     go_wp2
     refine bodyPost_ret (v := .tuple #[.int .i64 8, .int .i64 rb.p]) (by simp [results, Tryd.results23, go_sem]) rfl ⟨_, by rw [HA.out]; rfl, by first | rfl | exact World.drewN_drewN _ _ _⟩
   ·obtain ⟨_, d1, _⟩ := rec_cells hrb
    have hbbl := (rec_cells hrb).2.2.2.2.2
    have HA : Hid (ans = (7, rb.p)) := by rw [HANS.out]; unfold scopesAns; rw [h1]; simp only; rw [hri]; exact rfl
    clear h1 hri hrb b2
    go_wp2
    go_quiet (fail)
    go_wp2
    refine bodyPost_ret (v := .tuple #[.int .i64 7, .int .i64 rb.p]) (by simp [results, Tryd.results23, go_sem]) rfl ⟨_, by rw [HA.out]; rfl, by first | rfl | exact World.drewN_drewN _ _ _⟩
mutual
def PT.subs : PT → Nat → Nat → List (PT × Nat × Nat)
 | .num p s, id, site => [(.num p s, id, site)]
 | .name p s, id, site => [(.name p s, id, site)]
 | .node p k nm rg kids, id, site => subsL kids (id + 1) (site + if k = .pair then 1 else 0) ++ [(.node p k nm rg kids, id, site)]
def subsL : List PT → Nat → Nat → List (PT × Nat × Nat)
 | [], _, _ => []
 | t :: r, id, site => t.subs id site ++ subsL r (id + t.cnt) (site + t.prs)
end
def recOf : PT × Nat × Nat → Rec
 | (.num p s, id, site) => ⟨numB, p, [], valueL s, id, id, site⟩
 | (.name p s, id, site) => ⟨nameB, p, s, 0, id, id, site⟩
 | (.node p k nm rg kids, id, site) => ⟨k.bytes, p, nm, valueL rg, id, id + cntL kids, site⟩
mutual
theorem recs_subs : ∀ (t : PT) (id site : Nat), t.recs id site = (t.subs id site).map recOf
 | .num _ _, _, _ => rfl
 | .name _ _, _, _ => rfl
 | .node _ _ _ _ kids, id, site => by simp only [PT.recs, PT.subs, List.map_append, recsL_subs kids]; rfl
theorem recsL_subs : ∀ (ts : List PT) (id site : Nat), recsL ts id site = (subsL ts id site).map recOf
 | [], _, _ => rfl
 | t :: r, id, site => by simp only [recsL, subsL, List.map_append, recs_subs t, recsL_subs r]
end
theorem subs_len (t : PT) (id site : Nat) : (t.subs id site).length = t.cnt := by rw [← recs_len t id site, recs_subs, List.length_map]
theorem subsL_len (ts : List PT) (id site : Nat) : (subsL ts id site).length = cntL ts := by rw [← recsL_len ts id site, recsL_subs, List.length_map]
theorem subsL_snoc (ts : List PT) (t : PT) : ∀ (id site : Nat), subsL (ts ++ [t]) id site = subsL ts id site ++ t.subs (id + cntL ts) (site + prsL ts) := by
 induction ts with
 | nil => intro id site; simp [subsL, cntL, prsL]
 | cons a r ih => intro id site; simp only [List.cons_append, subsL, ih, cntL, prsL, List.append_assoc]; rw [Nat.add_assoc, Nat.add_assoc]
def areTs (w : World) (F : Nat → Prop) : List Nat → List (PT × Nat × Nat) → Prop
 | [], [] => True
 | b :: bl, x :: xl => IsT w F x.1 x.2.1 x.2.2 b ∧ areTs w F bl xl
 | _, _ => False
theorem areTs.append {w : World} {F : Nat → Prop} : ∀ {bl bl' : List Nat} {xl xl' : List (PT × Nat × Nat)}, areTs w F bl xl → areTs w F bl' xl' → areTs w F (bl ++ bl') (xl ++ xl')
 | [], _, [], _, _, h => h
 | b :: bl, _, r :: rl, _, h, h' => ⟨h.1, areTs.append h.2 h'⟩
 | [], _, _ :: _, _, h, _ => by simp [areTs] at h
 | _ :: _, _, [], _, h, _ => by simp [areTs] at h
theorem areTs.len {w : World} {F : Nat → Prop} : ∀ {bl : List Nat} {xl : List (PT × Nat × Nat)}, areTs w F bl xl → bl.length = xl.length
 | [], [], _ => rfl
 | b :: bl, r :: rl, h => by simp [areTs.len h.2]
 | [], _ :: _, h => by simp [areTs] at h
 | _ :: _, [], h => by simp [areTs] at h
theorem areTs.at {w : World} {F : Nat → Prop} : ∀ {bl : List Nat} {xl : List (PT × Nat × Nat)}, areTs w F bl xl → ∀ (i : Nat) (x : PT × Nat × Nat), xl[i]? = some x → ∃ b, bl[i]? = some b ∧ IsT w F x.1 x.2.1 x.2.2 b
 | [], [], _, i, x, hx => by simp at hx
 | b :: bl, r :: rl, h, i, x, hx => by
  cases i with
  | zero => simp only [List.getElem?_cons_zero, Option.some.injEq] at hx; subst hx; exact ⟨b, rfl, h.1⟩
  | succ i => simp only [List.getElem?_cons_succ] at hx ⊢; exact areTs.at h.2 i x hx
 | [], _ :: _, h, _, _, _ => by simp [areTs] at h
 | _ :: _, [], h, _, _, _ => by simp [areTs] at h
theorem isT_rec {w : World} {F : Nat → Prop} {t : PT} {id site b : Nat} (h : IsT w F t id site b) : isRec w b (recOf (t, id, site)) := by
 cases t with
 | num p s => simp only [IsT] at h; exact ⟨_, h.2⟩
 | name p s => simp only [IsT] at h; exact ⟨_, h.2⟩
 | node p k nm rg kids => simp only [IsT] at h; obtain ⟨_, kv, bl, hb, _⟩ := h; exact ⟨kv, hb⟩
set_option maxRecDepth 100000 in
set_option maxHeartbeats 1000000 in
theorem allT_leaf (b : Nat) (F : Nat → Prop) (t : PT) (w0 w : World) (op : List UInt8) (p : Nat) (nm : List UInt8) (n : Int) (id site : Nat) (hb : w0.heap[b]? = some (.cells (exCells op p nm n (.slice none 0 0) id id site) 52 (0, 0))) (hw0 : Below w0.heap.size w0 w) (hT : IsT w0 F t id site b) :
  Calls Tryd.prog 22 #[ptr b] w fun e w' => ∃ g cap bl, e = .returned (.slice (some ⟨g, 0, none⟩) bl.length cap) ∧ Below w.heap.size w w' ∧ w'.ownsRow w.heap.size 39 1 (.slice (some ⟨g, 0, none⟩) bl.length cap) bl.length (bl.map ptr) ∧ areTs w0 F bl [(t, id, site)] := by
 obtain ⟨i0, hi, hz0, hz1, hz2⟩ := info_parts Tryd.infoPtr
 have HI : Hid _ := hi
 have HZ0 : Hid _ := hz0
 have HZ1 : Hid _ := hz1
 have HZ2 : Hid _ := hz2
 clear hi hz0 hz1 hz2
 have hbw := blk_lt hb
 have x4 : w.cell? ⟨b, 4, none⟩ = some (.slice none 0 0) := (hw0.cell (p := ⟨b, 4, none⟩) hbw).trans (by rw [blk_cell hb]; rfl)
 have HB : Hid _ := hT
 clear hb hT
 show Calls _ _ #[Value.pointer (some ⟨b, 0, none⟩)] w _
 go_enter Tryd.func22, Tryd.ntmps22
 go_wp2
 refine wp_loop_rounds 1 ?_
 rw [rounds_succ]
 go_wp2_with (at_builtin; refine wpList_append_own _ rfl (.tmp 26) (.tmp 28) 48 rfl w.heap.size 39 i0 _ 1 8 Tryd.undPtrs HI.out HZ0.out HZ1.out HZ2.out rfl (by decide) _ 0 [] rfl (World.ownsRow_nil _ _ _ _) ⟨w.heap.size, 0, none⟩ 1 1 [ptr b] rfl rfl ?d1 ?d2 ?d3 ?d4 ?d5 ?_)
 case d1 =>
  intro j' u hj'
  match j', hj' with
  | 0, hj' => simp at hj'; subst hj'; simp [Addr.add, ptr]
  | j' + 1, hj' => simp at hj'
 case d2 => intro u hu; simp at hu; subst hu; rfl
 case d3 => unfold maxLen; omega
 case d4 => omega
 case d5 => simp
 intro v' w2 hown' hgrow hnil
 have HB2 : Hid (Below w.heap.size w w2) := ((Below.refl w.heap.size w).alloc (Nat.le_refl _) _).grown hgrow (by simp) (fun b hb => by simp [Value.ownBlock] at hb)
 obtain ⟨g2, cap2, hv2⟩ : ∃ g2 cap2, v' = .slice (some ⟨g2, 0, none⟩) 1 cap2 := by
  rcases hown'.2 with ⟨h, h'⟩ | ⟨g', cap', cur, h, _⟩
  ·omega
  ·exact ⟨_, _, h⟩
 rw [hv2] at hown' ⊢
 have HO3 : Hid (w2.ownsRow w.heap.size 39 1 (.slice (some ⟨g2, 0, none⟩) 1 cap2) 1 [ptr b]) := hown'
 clear hown' hgrow hnil hv2
 go_wp2
 go_ret
 exact ⟨g2, cap2, [b], rfl, HB2.out, HO3.out, HB.out, True.intro⟩
set_option maxRecDepth 100000 in
set_option maxHeartbeats 1000000 in
theorem allT_any (t : PT) : ∀ (id site b : Nat) (F : Nat → Prop) (w0 : World), t.cnt ≤ 9000 → IsT w0 F t id site b → ∀ w : World, Below w0.heap.size w0 w → Calls Tryd.prog 22 #[ptr b] w fun e w' =>
  ∃ g cap bl, e = .returned (.slice (some ⟨g, 0, none⟩) bl.length cap) ∧ Below w.heap.size w w' ∧ w'.ownsRow w.heap.size 39 1 (.slice (some ⟨g, 0, none⟩) bl.length cap) bl.length (bl.map ptr) ∧ areTs w0 F bl (t.subs id site) := by
 induction t using PT.ind with
 | h1 p s =>
  intro id site b F w0 hcnt hT w hw0
  have hT0 := hT
  simp only [IsT] at hT
  exact allT_leaf b F _ w0 w _ _ _ _ _ _ hT.2 hw0 hT0
 | h2 p s =>
  intro id site b F w0 hcnt hT w hw0
  have hT0 := hT
  simp only [IsT] at hT
  exact allT_leaf b F _ w0 w _ _ _ _ _ _ hT.2 hw0 hT0
 | h3 p k nm rg kids ih =>
  intro id site b F w0 hcnt hT w hw0
  obtain ⟨i0, hi, hz0, hz1, hz2⟩ := info_parts Tryd.infoPtr
  have HI : Hid _ := hi
  have HZ0 : Hid _ := hz0
  have HZ1 : Hid _ := hz1
  have HZ2 : Hid _ := hz2
  clear hi hz0 hz1 hz2
  have HT0 : Hid _ := hT
  simp only [IsT] at hT
  obtain ⟨hFb, kv, bl, hb, hF, hkv, hts⟩ := hT
  have hbw := blk_lt hb
  have hw0s := hw0.size
  have x4 : w.cell? ⟨b, 4, none⟩ = some kv := (hw0.cell (p := ⟨b, 4, none⟩) hbw).trans (by rw [blk_cell hb]; rfl)
  have hkl : kids.length ≤ 9000 := by have := len_cntL kids; simp only [PT.cnt] at hcnt; omega
  have hlen := IsTs.len _ _ _ _ hts
  have hcl : cntL kids ≤ 9000 := by simp only [PT.cnt] at hcnt; omega
  obtain ⟨va, vc, hvk⟩ : ∃ va vc, kv = .slice va kids.length vc := by
   rcases hkv.2 with ⟨h, h'⟩ | ⟨g, cap, cur, h, _⟩
   ·exact ⟨none, 0, by rw [h, h']⟩
   ·exact ⟨_, _, h⟩
  have HB : Hid _ := hb
  have HKV : Hid (w0.ownsRow 0 39 1 kv kids.length (bl.map ptr)) := hkv
  have HTS : Hid _ := hts
  have HV : Hid _ := hvk
  rw [hvk] at x4
  clear hb hkv hts hvk
  show Calls _ _ #[Value.pointer (some ⟨b, 0, none⟩)] w _
  go_enter Tryd.func22, Tryd.ntmps22
  go_wp2
  go_loopw [3, 4] (fun v i wr => ∃ (j : Nat) (cl : List Nat), j ≤ kids.length ∧ i = .int .i64 j ∧ Below w.heap.size w wr ∧ wr.ownsRow w.heap.size 39 1 v cl.length (cl.map ptr) ∧ areTs w0 F cl (subsL (kids.take j) (id + 1) (site + if k = .pair then 1 else 0))) (fun _ i _ => kids.length - (intOf i).toNat)
  case atStart => exact ⟨0, [], by omega, rfl, Below.refl _ _, World.ownsRow_nil _ _ _ _, by simp [subsL, areTs]⟩
  case round =>
   obtain ⟨j, cl, hj, rfl, hbel, hown, hrec⟩ := hrel
   have x4r : wr.cell? ⟨b, 4, none⟩ = some (.slice va kids.length vc) := (hbel.cell (p := ⟨b, 4, none⟩) (by simp only; omega)).trans x4
   by_cases hlt : j < kids.length
   ·obtain ⟨x, hx⟩ : ∃ x, kids[j]? = some x := ⟨kids[j], List.getElem?_eq_getElem hlt⟩
    obtain ⟨bx, hbx, hTx⟩ := IsTs.at _ _ _ _ HTS.out j x hx
    have hcx : x.cnt ≤ 9000 := by
     have h1 := cntL_take kids (j + 1)
     rw [List.take_add_one, hx] at h1
     simp only [Option.toList_some] at h1
     rw [cntL_snoc] at h1
     omega
    have hcj : cl.length ≤ 9000 := by
     rw [hrec.len, subsL_len]
     have h1 := cntL_take kids j
     omega
    obtain ⟨gk, hgk⟩ : ∃ gk, va = some ⟨gk, 0, none⟩ := by
     have h := HKV.out.2
     rw [HV.out] at h
     rcases h with ⟨h, h'⟩ | ⟨g, cap, cur, h, _⟩
     ·omega
     ·simp only [Value.slice.injEq] at h; exact ⟨_, h.1⟩
    have hkc : w0.cell? ⟨gk, j, none⟩ = some (ptr bx) := by
     have h : w0.ownsRow 0 39 1 (.slice (some ⟨gk, 0, none⟩) kids.length vc) kids.length (bl.map ptr) := by rw [← hgk, ← HV.out]; exact HKV.out
     rw [h.cellAt j (by omega)]; simp [hbx]
    have hgkw : gk < w0.heap.size := World.block_lt_of_cell? _ _ hkc
    have hkcr : wr.cell? ⟨gk, j, none⟩ = some (ptr bx) := ((hw0.trans (hbel.mono hw0s)).cell (p := ⟨gk, j, none⟩) hgkw).trans hkc
    subst hgk
    unfold ptr at hkcr
    have hca := ih x (List.mem_of_getElem? hx) _ _ bx F w0 hcx hTx wr (hw0.trans (hbel.mono hw0s))
    unfold ptr at hca
    have HX : Hid _ := hx
    have HREC : Hid _ := hrec
    have HOWN : Hid (wr.ownsRow w.heap.size 39 1 _ cl.length (cl.map ptr)) := hown
    have HTX : Hid _ := hTx
    have hsz := hbel.size
    clear hx hbx hTx hkc hrec hown
    have hcs : cl.length + x.cnt ≤ 9000 := by
     have h0 := hcl
     have h1 := cntL_take kids (j + 1)
     rw [List.take_add_one, HX.out] at h1
     simp only [Option.toList_some] at h1
     rw [cntL_snoc] at h1
     have h2 := HREC.out.len
     rw [subsL_len] at h2
     omega
    go_wp2_with (first
     | (go_at_call 22; refine hca.mono ?_; rintro e w1 ⟨g1, cap1, bl1, rfl, hb1, ho1, hr1⟩)
     | (at_builtin; go_must (refine wpList_append_own _ rfl (.tmp 23) (.tmp 24) 48 rfl w.heap.size 39 i0 _ 1 8 Tryd.undPtrs HI.out HZ0.out HZ1.out HZ2.out rfl (by decide) _ cl.length (cl.map ptr) rfl (owns_below HOWN.out hb1) ⟨g1, 0, none⟩ bl1.length cap1 (bl1.map ptr) rfl ?d0 ?d1 ?d2 ?d3 ?d4 ?d5 ?_)))
    case d0 => simp
    case d1 => intro j' u hj'; exact ho1.cells rfl j' u hj'
    case d2 => intro u hu; simp at hu; obtain ⟨_, _, rfl⟩ := hu; rfl
    case d3 => have := hr1.len; rw [subs_len] at this; unfold maxLen; omega
    case d4 => have := hr1.len; rw [subs_len] at this; omega
    case d5 => have := hb1.size; omega
    intro v' w2 hown' hgrow hnil
    have hsz1 := hb1.size
    have HB2 : Hid (Below w.heap.size w w2) := (hbel.trans (hb1.mono hsz)).grown hgrow (by omega) (fun b hb => (World.ownsRow.lt HOWN.out b hb).1)
    have HO3 : Hid (w2.ownsRow w.heap.size 39 1 v' (cl.length + bl1.length) (cl.map ptr ++ bl1.map ptr)) := hown'
    have HR3 : Hid (areTs w0 F (cl ++ bl1) (subsL (kids.take j) (id + 1) (site + if k = .pair then 1 else 0) ++ x.subs (id + 1 + cntL (kids.take j)) (site + (if k = .pair then 1 else 0) + prsL (kids.take j)))) := by
     exact areTs.append HREC.out hr1
    clear hown' hgrow hnil ho1 hr1 hb1
    go_wp2
    go_roundw
    case rel =>
     refine ⟨j + 1, cl ++ bl1, by omega, by go_num, HB2.out, ?_, ?_⟩
     ·have := HO3.out; simpa using this
     ·have := HR3.out
      rw [List.take_add_one, HX.out]
      simp only [Option.toList_some]
      rw [subsL_snoc]; exact this
    case measure => simp [intOf]; omega
   ·have hcj : cl.length ≤ 9000 := by
     rw [hrec.len, subsL_len]
     have h1 := cntL_take kids j
     omega
    have HREC : Hid _ := hrec
    have HOWN : Hid (wr.ownsRow w.heap.size 39 1 _ cl.length (cl.map ptr)) := hown
    have hsz := hbel.size
    clear hrec hown
    go_wp2_with (at_builtin; refine wpList_append_own _ rfl (.tmp 26) (.tmp 28) 48 rfl w.heap.size 39 i0 _ 1 8 Tryd.undPtrs HI.out HZ0.out HZ1.out HZ2.out rfl (by decide) _ cl.length (cl.map ptr) rfl (HOWN.out.alloc _) ⟨wr.heap.size, 0, none⟩ 1 1 [ptr b] rfl rfl ?d1 ?d2 ?d3 ?d4 ?d5 ?_)
    case d1 =>
     intro j' u hj'
     match j', hj' with
     | 0, hj' => simp at hj'; subst hj'; simp [Addr.add, ptr]
     | j' + 1, hj' => simp at hj'
    case d2 => intro u hu; simp at hu; subst hu; rfl
    case d3 => unfold maxLen; omega
    case d4 => omega
    case d5 => simp; omega
    intro v' w2 hown' hgrow hnil
    have HB2 : Hid (Below w.heap.size w w2) := (hbel.alloc hsz _).grown hgrow (by simp; omega) (fun b hb => (World.ownsRow.lt HOWN.out b hb).1)
    obtain ⟨g2, cap2, hv2⟩ : ∃ g2 cap2, v' = .slice (some ⟨g2, 0, none⟩) (cl.length + 1) cap2 := by
     rcases hown'.2 with ⟨h, h'⟩ | ⟨g', cap', cur, h, _⟩
     ·omega
     ·exact ⟨_, _, h⟩
    rw [hv2] at hown' ⊢
    have HO3 : Hid (w2.ownsRow w.heap.size 39 1 (.slice (some ⟨g2, 0, none⟩) (cl.length + 1) cap2) (cl.length + 1) (cl.map ptr ++ [ptr b])) := hown'
    clear hown' hgrow hnil hv2
    go_wp2
    go_ret
    refine ⟨g2, cap2, cl ++ [b], by simp, HB2.out, ?_, ?_⟩
    ·have := HO3.out; simpa using this
    ·have hj' : j = kids.length := by omega
     have hr := HREC.out
     rw [hj', List.take_length] at hr
     simp only [PT.subs]
     exact areTs.append hr ⟨HT0.out, True.intro⟩
end Go.Proofs.YtpicaknklgccoaaDoor
