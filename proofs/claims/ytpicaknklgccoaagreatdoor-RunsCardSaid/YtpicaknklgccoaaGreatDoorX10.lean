import Derived.Test.YtpicaknklgccoaaGreatDoorX9
import Derived.Test.YtpicaknklgccoaaGreatDoorX1
import Derived.Test.YtpicaknklgccoaaGreatDoorX3
import Derived.Shelf.Lay
import Derived.Shelf.LaysM
import Derived.Shelf.Strconv.Itoa3
import Derived.Lib.AppendIntMem
import Derived.Test.YtpicaknklgccoaaGreatDoorX6
import Derived.Deep.RegionHeld3
namespace Go.Proofs.YtpicaknklgccoaaGreatDoor
def REnvHas (env : REnv) (G : TEnv) : Prop := ∀ s T, look G s = some T → (rlook env s).has T
theorem REnvHas.snoc {env : REnv} {G : TEnv} {nm : List UInt8} {v : RV} {T : Ty} (h : REnvHas env G) (hv : v.has T) : REnvHas ((nm, v) :: env) (G ++ [(nm, T)]) := by
 intro s U hs
 rw [look_snoc] at hs
 simp only [rlook]
 by_cases e : nm = s
 ·rw [if_pos (by simpa using e)] at hs; rw [if_pos e]; cases hs; exact hv
 ·rw [if_neg (by simpa using e)] at hs; rw [if_neg e]; exact h s U hs
def RRes (T : Ty) (st : RS) (r : RV × RS) : Prop := (r.2.e = 0 → st.e = 0 ∧ r.1.has T) ∧ (r.2.e ≠ 0 → r.1 = .n 0)
theorem rBegun_res {fuel : Nat} {st : RS} {T : Ty} {f : RS → RV × RS} (h : ∀ st' : RS, st'.e = 0 → st.e = 0 → RRes T st' (f st')) : RRes T st (rBegun fuel st f) := by
 unfold rBegun
 split
 ·rename_i he; exact ⟨fun e => absurd e he, fun _ => rfl⟩
 ·rename_i he
  have h0 : st.e = 0 := by simpa using he
  split
  ·exact ⟨fun e => by simp at e, fun _ => rfl⟩
  ·have := h { st with steps := st.steps + 1 } h0 h0
   exact ⟨fun e => ⟨h0, (this.1 e).2⟩, this.2⟩
theorem rTurns_res {T : Ty} {f : RV → RS → RV × RS} (hf : ∀ v st, (st.e = 0 → v.has T) → RRes T st (f v st)) : ∀ (k : Nat) (v : RV) (st : RS), (st.e = 0 → v.has T) → (st.e ≠ 0 → v = .n 0) → RRes T st (rTurns f k v st)
 | 0, v, st, h1, h2 => ⟨fun e => ⟨e, h1 e⟩, h2⟩
 | k + 1, v, st, h1, h2 => by
  unfold rTurns
  split
  ·rename_i he; exact ⟨fun e => absurd e he, h2⟩
  ·rename_i he
   have h0 : st.e = 0 := by simpa using he
   have hx := hf v st h1
   have := rTurns_res hf k (f v st).1 (f v st).2 (fun e => (hx.1 e).2) hx.2
   exact ⟨fun e => ⟨h0, (this.1 e).2⟩, this.2⟩
theorem rhas_num {v : RV} (h : v.has .n) : ∃ k : Int, v = .n k ∧ 0 ≤ k ∧ k ≤ 9999 := by
 cases v with
 | n k => exact ⟨k, rfl, h⟩
 | p a b c => simp [RV.has] at h
theorem rhas_pair {v : RV} {r : Nat} {A B : Ty} (h : v.has (.p r A B)) : ∃ a b c, v = .p a b c ∧ a.has A ∧ b.has B := by
 cases v with
 | n k => simp [RV.has] at h
 | p a b c => exact ⟨a, b, c, rfl, h⟩
theorem rres_num {st : RS} {r : RV × RS} (h : RRes .n st r) : ∃ k : Int, r.1 = .n k ∧ 0 ≤ k ∧ k ≤ 9999 := by
 by_cases e : r.2.e = 0
 ·exact rhas_num (h.1 e).2
 ·exact ⟨0, h.2 e, by omega, by omega⟩
theorem rArith_has (k : Kw) (a b : Int) (ha : 0 ≤ a ∧ a ≤ 9999) (hb : 0 ≤ b ∧ b ≤ 9999) : 0 ≤ rArith k a b ∧ rArith k a b ≤ 9999 := by
 unfold rArith
 split
 ·rw [Int.tmod_eq_emod_of_nonneg (by omega)]; omega
 ·split
  ·rw [Int.tmod_eq_emod_of_nonneg (by omega)]; omega
  ·split <;> omega
theorem rW_res (fuel : Nat) {G : TEnv} {t : PT} {T : Ty} (h : WT G t T) : ∀ (env : REnv) (st : RS), t.tame → (st.e = 0 → REnvHas env G) → RRes T st (rW fuel t env st) := by
 induction h with
 | num =>
  intro env st ht he
  simp only [PT.tame] at ht
  unfold rW
  exact rBegun_res (fun st' h0 _ => ⟨fun _ => ⟨h0, by simp only [RV.has]; exact ht⟩, fun e => absurd h0 e⟩)
 | name hl =>
  intro env st ht he
  unfold rW
  exact rBegun_res (fun st' h0 hs => ⟨fun _ => ⟨h0, he hs _ _ hl⟩, fun e => absurd h0 e⟩)
 | @let_ G p nm rg a b A B ha hb iha ihb =>
  intro env st ht he
  simp only [PT.tame, tameL] at ht
  unfold rW
  simp only [reduceCtorEq, if_false, if_true]
  refine rBegun_res (fun st' h0 hs => ?_)
  simp only [rLet]
  have x := iha env st' ht.2.1 (fun _ => he hs)
  have y := ihb ((nm, (rW fuel a env st').1) :: env) (rW fuel a env st').2 ht.2.2.1 (fun e => (he hs).snoc (x.1 e).2)
  exact ⟨fun e => ⟨h0, (y.1 e).2⟩, y.2⟩
 | @pair G p nm rg a b A B ha hb hsz iha ihb =>
  intro env st ht he
  simp only [PT.tame, tameL] at ht
  unfold rW
  simp only [reduceCtorEq, if_false]
  refine rBegun_res (fun st' h0 hs => ?_)
  have x := iha env st' ht.2.1 (fun _ => he hs)
  have y := ihb env (rW fuel a env st').2 ht.2.2.1 (fun _ => he hs)
  simp only [rOps]
  split
  ·rename_i e1; exact ⟨fun e => absurd e e1, fun _ => rfl⟩
  ·rename_i e1
   have e0 : (rW fuel b env (rW fuel a env st').2).2.e = 0 := by simpa using e1
   have y0 := y.1 e0
   simp only [if_true]
   have hw := (where_e (rW fuel b env (rW fuel a env st').2).2 (valueL rg)).2.2.2.1
   refine ⟨fun _ => ⟨h0, ?_⟩, fun e => absurd (by simp only [rPair, RS.one]; rw [hw]; exact e0) e⟩
   simp only [rPair, RV.has]
   exact ⟨(x.1 y0.1).2, y0.2⟩
 | @fst G p nm rg a A B ha iha =>
  intro env st ht he
  simp only [PT.tame, tameL] at ht
  unfold rW
  simp only [reduceCtorEq, if_false]
  refine rBegun_res (fun st' h0 hs => ?_)
  have x := iha env st' ht.2.1 (fun _ => he hs)
  simp only [rOps]
  split
  ·rename_i e1; exact ⟨fun e => absurd e e1, fun _ => rfl⟩
  ·rename_i e1
   have e0 : ((rW fuel a env st').2.used (rW fuel a env st').1).e = 0 := by simpa using e1
   have x0 := (x.1 ((used_e _ _).2.2.2.2.2.2 e0)).2
   refine ⟨fun _ => ⟨h0, ?_⟩, fun e => absurd e0 e⟩
   simp only [if_true]
   obtain ⟨u, v, c, hv, h1, _⟩ := rhas_pair x0
   rw [hv]; exact h1
 | @snd G p nm rg a A B ha iha =>
  intro env st ht he
  simp only [PT.tame, tameL] at ht
  unfold rW
  simp only [reduceCtorEq, if_false]
  refine rBegun_res (fun st' h0 hs => ?_)
  have x := iha env st' ht.2.1 (fun _ => he hs)
  simp only [rOps]
  split
  ·rename_i e1; exact ⟨fun e => absurd e e1, fun _ => rfl⟩
  ·rename_i e1
   have e0 : ((rW fuel a env st').2.used (rW fuel a env st').1).e = 0 := by simpa using e1
   have x0 := (x.1 ((used_e _ _).2.2.2.2.2.2 e0)).2
   refine ⟨fun _ => ⟨h0, ?_⟩, fun e => absurd e0 e⟩
   simp only [reduceCtorEq, if_false]
   obtain ⟨u, v, c, hv, _, h1⟩ := rhas_pair x0
   rw [hv]; exact h1
 | @if_ G p nm rg a b c T ha hb hc iha ihb ihc =>
  intro env st ht he
  simp only [PT.tame, tameL] at ht
  unfold rW
  simp only [reduceCtorEq, if_false, if_true]
  refine rBegun_res (fun st' h0 hs => ?_)
  simp only [rIf]
  have x := iha env st' ht.2.1 (fun _ => he hs)
  split
  ·have y := ihb env (rW fuel a env st').2 ht.2.2.1 (fun _ => he hs)
   exact ⟨fun e => ⟨h0, (y.1 e).2⟩, y.2⟩
  ·have y := ihc env (rW fuel a env st').2 ht.2.2.2.1 (fun _ => he hs)
   exact ⟨fun e => ⟨h0, (y.1 e).2⟩, y.2⟩
 | @two G p k nm rg a b hk ha hb iha ihb =>
  intro env st ht he
  simp only [PT.tame, tameL] at ht
  have k0 : k ≠ .new := by rcases hk with rfl | rfl | rfl <;> decide
  have k1 : k ≠ .let_ := by rcases hk with rfl | rfl | rfl <;> decide
  have k2 : k ≠ .if_ := by rcases hk with rfl | rfl | rfl <;> decide
  have k3 : k ≠ .loop := by rcases hk with rfl | rfl | rfl <;> decide
  have k4 : k ≠ .pair := by rcases hk with rfl | rfl | rfl <;> decide
  unfold rW
  simp only [if_neg k0, if_neg k1, if_neg k2, if_neg k3]
  refine rBegun_res (fun st' h0 hs => ?_)
  have x := iha env st' ht.2.1 (fun _ => he hs)
  have y := ihb env (rW fuel a env st').2 ht.2.2.1 (fun _ => he hs)
  simp only [rOps]
  split
  ·rename_i e1; exact ⟨fun e => absurd e e1, fun _ => rfl⟩
  ·rename_i e1
   have e0 : (rW fuel b env (rW fuel a env st').2).2.e = 0 := by simpa using e1
   refine ⟨fun _ => ⟨h0, ?_⟩, fun e => absurd e0 e⟩
   obtain ⟨n1, hn1, hb1⟩ := rres_num x
   obtain ⟨n2, hn2, hb2⟩ := rres_num y
   simp only [RV.has, hn1, hn2, RV.num]
   exact rArith_has k n1 n2 hb1 hb2
 | @loop G p nm rg a b c T ha hb hc iha ihb ihc =>
  intro env st ht he
  simp only [PT.tame, tameL] at ht
  unfold rW
  simp only [reduceCtorEq, if_false, if_true]
  refine rBegun_res (fun st' h0 hs => ?_)
  simp only [rLoop]
  have y := ihb env (rW fuel a env st').2 ht.2.2.1 (fun _ => he hs)
  have z := rTurns_res (f := fun v st => rW fuel c ((nm, v) :: env) st) (fun v st hv => ihc ((nm, v) :: env) st ht.2.2.2.1 (fun e => (he hs).snoc (hv e))) (rW fuel a env st').1.num.toNat (rW fuel b env (rW fuel a env st').2).1 (rW fuel b env (rW fuel a env st').2).2 (fun e => (y.1 e).2) y.2
  exact ⟨fun e => ⟨h0, (z.1 e).2⟩, z.2⟩
 | @new G p nm rg a T ha iha =>
  intro env st ht he
  simp only [PT.tame, tameL] at ht
  unfold rW
  simp only [if_true]
  split
  ·rename_i e1; exact ⟨fun e => absurd e e1, fun _ => rfl⟩
  ·rename_i e1
   have h0 : st.e = 0 := by simpa using e1
   simp only [rNew]
   have x := iha env (st.opened (valueL rg)) ht.2.1 (fun _ => he h0)
   exact ⟨fun e => ⟨h0, (x.1 e).2⟩, x.2⟩
structure RS.cb (st : RS) : Prop where
 o : ∀ (i : Nat) (o : RO), st.ops[i]? = some o → o.cells ≤ st.cells
 t : ∀ x ∈ st.tide, -(st.cells : Int) ≤ x ∧ x ≤ 1
theorem rBegun_cb {fuel : Nat} {st : RS} {f : RS → RV × RS} (h : st.cb) (hf : ∀ st', st'.cb → (f st').2.cb) : (rBegun fuel st f).2.cb := by
 unfold rBegun
 split
 ·exact h
 ·split
  ·exact ⟨h.o, h.t⟩
  ·exact hf _ ⟨h.o, h.t⟩
theorem rTurns_cb {f : RV → RS → RV × RS} (hf : ∀ v st, st.cb → (f v st).2.cb) : ∀ (k : Nat) (v : RV) (st : RS), st.cb → (rTurns f k v st).2.cb
 | 0, _, _, h => h
 | k + 1, v, st, h => by
  unfold rTurns
  split
  ·exact h
  ·exact rTurns_cb hf k _ _ (hf v st h)
theorem used_cb {st : RS} (v : RV) (h : st.cb) : (st.used v).cb := by
 unfold RS.used
 split
 ·exact h
 ·split
  ·exact ⟨h.o, h.t⟩
  ·exact h
theorem snoc_cb {st : RS} (rg : Int) (h : st.cb) : ∀ (i : Nat) (o : RO), (st.ops ++ [⟨rg, 0, false⟩])[i]? = some o → o.cells ≤ st.cells := by
 intro i o ho
 by_cases hl : i < st.ops.length
 ·rw [List.getElem?_append_left hl] at ho; exact h.o i o ho
 ·rw [List.getElem?_append_right (by omega)] at ho
  rw [List.getElem?_singleton] at ho
  split at ho
  ·cases ho; exact Nat.zero_le _
  ·cases ho
theorem where_cb {st : RS} (rg : Int) (h : st.cb) : (st.where_ rg).2.cb := by
 unfold RS.where_
 split
 ·exact h
 ·exact ⟨snoc_cb rg h, h.t⟩
theorem opened_cb {st : RS} (rg : Int) (h : st.cb) : (st.opened rg).cb := ⟨snoc_cb rg h, h.t⟩
theorem one_cb {st : RS} (i : Nat) (h : st.cb) : (st.one i).cb := by
 refine ⟨fun j o ho => ?_, fun x hx => ?_⟩
 ·simp only [RS.one] at ho ⊢
  rw [List.getElem?_modify] at ho
  cases hq : st.ops[j]? with
  | none => rw [hq] at ho; simp at ho
  | some o' =>
   rw [hq] at ho
   simp only [Option.map_eq_map, Option.map_some, Option.some.injEq] at ho
   have := h.o j o' hq
   rw [← ho]
   split
   ·simp only; omega
   ·omega
 ·simp only [RS.one, List.mem_append, List.mem_singleton] at hx ⊢
  rcases hx with hx | rfl
  ·have := h.t x hx; omega
  ·omega
theorem shut_cb {st : RS} (i : Nat) (h : st.cb) : (st.shut i).cb := by
 refine ⟨fun j o ho => ?_, fun x hx => ?_⟩
 ·simp only [RS.shut] at ho ⊢
  rw [List.getElem?_modify] at ho
  cases hq : st.ops[j]? with
  | none => rw [hq] at ho; simp at ho
  | some o' =>
   rw [hq] at ho
   simp only [Option.map_eq_map, Option.map_some, Option.some.injEq] at ho
   have := h.o j o' hq
   rw [← ho]
   split
   ·exact this
   ·exact this
 ·simp only [RS.shut, List.mem_append, List.mem_singleton] at hx ⊢
  rcases hx with hx | rfl
  ·exact h.t x hx
  ·cases hq : st.ops[i]? with
   | none => simp
   | some o' => have := h.o i o' hq; simp only [Option.map_some, Option.getD_some]; omega
mutual
theorem rW_cb (fuel : Nat) : ∀ (t : PT) (env : REnv) (st : RS), st.cb → (rW fuel t env st).2.cb
 | .num _ s, env, st, h => by unfold rW; exact rBegun_cb h (fun st' h => h)
 | .name _ s, env, st, h => by unfold rW; exact rBegun_cb h (fun st' h => h)
 | .node _ k nm rg kids, env, st, h => by
  unfold rW
  split
  ·split
   ·exact h
   ·exact rNew_cb fuel _ kids env st h
  ·refine rBegun_cb h (fun st' h => ?_)
   split
   ·exact rLet_cb fuel nm kids env st' h
   ·split
    ·exact rIf_cb fuel kids env st' h
    ·split
     ·exact rLoop_cb fuel nm kids env st' h
     ·exact rOps_cb fuel k _ kids env st' h
theorem rNew_cb (fuel : Nat) (rg : Int) : ∀ (ts : List PT) (env : REnv) (st : RS), st.cb → (rNew fuel rg ts env st).2.cb
 | [a], env, st, h => by simp only [rNew]; exact shut_cb _ (rW_cb fuel a env _ (opened_cb rg h))
 | [], _, st, h => by simp only [rNew]; exact h
 | _ :: _ :: _, _, st, h => by simp only [rNew]; exact h
theorem rLet_cb (fuel : Nat) (nm : List UInt8) : ∀ (ts : List PT) (env : REnv) (st : RS), st.cb → (rLet fuel nm ts env st).2.cb
 | [a, b], env, st, h => by simp only [rLet]; exact rW_cb fuel b _ _ (rW_cb fuel a env st h)
 | [], _, st, h => by simp only [rLet]; exact h
 | [_], _, st, h => by simp only [rLet]; exact h
 | _ :: _ :: _ :: _, _, st, h => by simp only [rLet]; exact h
theorem rIf_cb (fuel : Nat) : ∀ (ts : List PT) (env : REnv) (st : RS), st.cb → (rIf fuel ts env st).2.cb
 | [a, b, c], env, st, h => by
  simp only [rIf]
  split
  ·exact rW_cb fuel b _ _ (rW_cb fuel a env st h)
  ·exact rW_cb fuel c _ _ (rW_cb fuel a env st h)
 | [], _, st, h => by simp only [rIf]; exact h
 | [_], _, st, h => by simp only [rIf]; exact h
 | [_, _], _, st, h => by simp only [rIf]; exact h
 | _ :: _ :: _ :: _ :: _, _, st, h => by simp only [rIf]; exact h
theorem rLoop_cb (fuel : Nat) (nm : List UInt8) : ∀ (ts : List PT) (env : REnv) (st : RS), st.cb → (rLoop fuel nm ts env st).2.cb
 | [a, b, c], env, st, h => by
  simp only [rLoop]
  exact rTurns_cb (fun v st h => rW_cb fuel c _ st h) _ _ _ (rW_cb fuel b _ _ (rW_cb fuel a env st h))
 | [], _, st, h => by simp only [rLoop]; exact h
 | [_], _, st, h => by simp only [rLoop]; exact h
 | [_, _], _, st, h => by simp only [rLoop]; exact h
 | _ :: _ :: _ :: _ :: _, _, st, h => by simp only [rLoop]; exact h
theorem rOps_cb (fuel : Nat) (k : Kw) (rg : Int) : ∀ (ts : List PT) (env : REnv) (st : RS), st.cb → (rOps fuel k rg ts env st).2.cb
 | [a], env, st, h => by
  simp only [rOps]
  have h' := used_cb (rW fuel a env st).1 (rW_cb fuel a env st h)
  split <;> exact h'
 | [a, b], env, st, h => by
  simp only [rOps]
  have h' := rW_cb fuel b env _ (rW_cb fuel a env st h)
  split
  ·exact h'
  ·split
   ·exact one_cb _ (where_cb _ h')
   ·exact h'
 | [], _, st, h => by simp only [rOps]; exact h
 | _ :: _ :: _ :: _, _, st, h => by simp only [rOps]; exact h
end
end Go.Proofs.YtpicaknklgccoaaGreatDoor
namespace Go.Proofs.YtpicaknklgccoaaGreatDoor
open Go.RowKit Go.Shelf Go.Sort
open Go.Lib (decDigits)
def ItoaOk (w0 : World) : Prop := ∀ (n : Nat) (w : World), n ≤ 9999 → Below w0.heap.size w0 w → Calls Tryz.prog 49 #[.int .i64 n] w fun e w' => e = .returned (.string (bs (decDigits n))) ∧ Below w.heap.size w w'
shelf_lay LaysM.n171 Nm 171 at Tryz as Tryz.laysM171
theorem itoa_ok (w0 : World) (htab : Lib.TabIs Tryz.prog w0 "internal/strconv.uint64pow10" .u64 Lib.pow10Tab) : ItoaOk w0 := by
 intro n w hn hb
 refine (Any.strconv_Itoa Tryz.laysM171 (n : Int) (by omega) (by omega) w (Lib.tabBelow_of_tabIs htab w hb)).mono ?_
 rintro e w' ⟨rfl, k, os, rfl⟩
 refine ⟨?_, Lib.below_grow _ _ (Nat.le_refl _) k os⟩
 have e1 : Lib.itoa (n : Int) = decDigits n := by
  unfold Lib.itoa; rw [if_neg (by omega)]; rfl
 rw [e1]; rfl
end Go.Proofs.YtpicaknklgccoaaGreatDoor
namespace Go.Proofs.YtpicaknklgccoaaGreatDoor
open Go.RowKit
open Go.Lib (decDigits)
theorem node_kid {w0 : World} {F : Nat → Prop} {p : Nat} {k : Kw} {nm rg : List UInt8} {kids : List PT} {id site b : Nat} (hT : IsT w0 F (.node p k nm rg kids) id site b) :
  ∃ va vc, (w0.cell? ⟨b, 0, none⟩ = some (.string (bs k.bytes)) ∧ w0.cell? ⟨b, 2, none⟩ = some (.string (bs nm)) ∧ w0.cell? ⟨b, 4, none⟩ = some (.slice va kids.length vc)) ∧ b < w0.heap.size ∧
   ∀ j x, kids[j]? = some x → ∃ gk bx id' site', va = some ⟨gk, 0, none⟩ ∧ gk < w0.heap.size ∧ w0.cell? ⟨gk, j, none⟩ = some (ptr bx) ∧ IsT w0 F x id' site' bx := by
 simp only [IsT] at hT
 obtain ⟨hFb, kv, bl, hb, hF, hkv, hts⟩ := hT
 obtain ⟨va, vc, hvk⟩ : ∃ va vc, kv = .slice va kids.length vc := by
  rcases hkv.2 with ⟨h, h'⟩ | ⟨g, cap, cur, h, _⟩
  ·exact ⟨none, 0, by rw [h, h']⟩
  ·exact ⟨_, _, h⟩
 have hbw := blk_lt hb
 refine ⟨va, vc, ⟨by rw [blk_cell hb]; rfl, by rw [blk_cell hb]; rfl, by rw [blk_cell hb, ← hvk]; rfl⟩, hbw, ?_⟩
 intro j x hx
 obtain ⟨bx, hbx, hTx⟩ := IsTs.at _ _ _ _ hts j x hx
 have hlt : j < kids.length := (List.getElem?_eq_some_iff.1 hx).1
 obtain ⟨gk, hgk⟩ : ∃ gk, va = some ⟨gk, 0, none⟩ := by
  have h := hkv.2
  rw [hvk] at h
  rcases h with ⟨h, h'⟩ | ⟨g, cap, cur, h, _⟩
  ·omega
  ·simp only [Value.slice.injEq] at h; exact ⟨_, h.1⟩
 have hkc : w0.cell? ⟨gk, j, none⟩ = some (ptr bx) := by
  have h : w0.ownsRow 0 63 1 (.slice (some ⟨gk, 0, none⟩) kids.length vc) kids.length (bl.map ptr) := by rw [← hgk, ← hvk]; exact hkv
  rw [h.cellAt j (by omega)]; simp [hbx]
 exact ⟨gk, bx, _, _, hgk, World.block_lt_of_cell? _ _ hkc, hkc, hTx⟩
end Go.Proofs.YtpicaknklgccoaaGreatDoor
namespace Go.Proofs.YtpicaknklgccoaaGreatDoor
open Go.RowKit
structure POk (fuel n : Nat) (st : RS) : Prop where
 f : fuel ≤ 20000
 s : st.steps ≤ fuel
 c : st.cells ≤ st.steps
 w : st.whl.length ≤ st.cells
 o : st.opn.length + n ≤ 9000
 t : st.tide.length + n * (fuel - st.steps + 1) ≤ 400000000
 b : st.cb
theorem PlIn.c {w0 w : World} {pb : Nat} {ov wv tv : Value} {obs : List Nat} {fuel : Nat} {st : RS} (h : PlIn w0 w pb ov wv tv obs fuel st) : w.cell? ⟨pb, 3, none⟩ = some (.int .i64 fuel) ∧ w.cell? ⟨pb, 4, none⟩ = some (.int .i64 st.steps) ∧ w.cell? ⟨pb, 5, none⟩ = some (.int .i64 st.cells) ∧ w.cell? ⟨pb, 6, none⟩ = some (.int .i64 st.e) ∧ pb < w.heap.size :=
 ⟨by rw [blk_cell h.y]; rfl, by rw [blk_cell h.y]; rfl, by rw [blk_cell h.y]; rfl, by rw [blk_cell h.y]; rfl, blk_lt h.y⟩
theorem PlIn.c6 {w0 w : World} {pb : Nat} {ov wv tv : Value} {obs : List Nat} {fuel : Nat} {st : RS} (h : PlIn w0 w pb ov wv tv obs fuel st) (he : st.e = 0) : w.cell? ⟨pb, 6, none⟩ = some (.int .i64 0) := by
 have := h.c.2.2.2.1
 rw [he] at this; exact this
theorem PlIn.setE {w0 w : World} {pb : Nat} {ov wv tv : Value} {obs : List Nat} {fuel : Nat} {st : RS} (h : PlIn w0 w pb ov wv tv obs fuel st) (e : Nat) : PlIn w0 (w.setCell ⟨pb, 6, none⟩ (.int .i64 e)) pb ov wv tv obs fuel { st with e := e } :=
 h.set 6 _ rfl rfl rfl rfl rfl
theorem PlIn.setS {w0 w : World} {pb : Nat} {ov wv tv : Value} {obs : List Nat} {fuel : Nat} {st : RS} (h : PlIn w0 w pb ov wv tv obs fuel st) : PlIn w0 (w.setCell ⟨pb, 4, none⟩ (.int .i64 ((st.steps : Int) + 1))) pb ov wv tv obs fuel { st with steps := st.steps + 1 } :=
 h.set 4 _ (by simp [plCells]) rfl rfl rfl rfl
theorem PlIn.immSet {w0 w : World} {pb : Nat} {ov wv tv : Value} {obs : List Nat} {fuel : Nat} {st : RS} (h : PlIn w0 w pb ov wv tv obs fuel st) (o : Nat) (x : Value) : Imm w (w.setCell ⟨pb, o, none⟩ x) := Imm.set h.y (by decide) (by decide)
theorem PlIn.drew {w0 w : World} {pb : Nat} {ov wv tv : Value} {obs : List Nat} {fuel : Nat} {st : RS} (h : PlIn w0 w pb ov wv tv obs fuel st) (m : Nat) : PlIn w0 (w.drewN m) pb ov wv tv obs fuel st := h.grow (below_drewP w m)
set_option maxRecDepth 100000 in
set_option maxHeartbeats 1000000 in
theorem used_any {w0 : World} (pb fuel : Nat) (ov wv tv : Value) (obs : List Nat) (st : RS) (w : World) (v : RV) (vb : Nat) (h : PlIn w0 w pb ov wv tv obs fuel st) (hv : isV w obs v vb) :
  Calls Tryz.prog 75 #[ptr pb, ptr vb] w fun e w' => e = .returned (.tuple #[]) ∧ Imm w w' ∧ PlIn w0 w' pb ov wv tv obs fuel (st.used v) := by
 obtain ⟨_, _, _, y6, hpl⟩ := h.c
 have f6 := blk_free h.y 6
 have HP : Hid _ := h
 show Calls _ _ #[Value.pointer (some ⟨pb, 0, none⟩), Value.pointer (some ⟨vb, 0, none⟩)] w _
 by_cases he : st.e = 0
 ·rw [he] at y6
  cases v with
  | n k =>
   simp only [isV] at hv
   have v3 : w.cell? ⟨vb, 3, none⟩ = some (.pointer none) := by rw [blk_cell hv]; rfl
   have hvl := blk_lt hv
   clear h hv he
   go_enter Tryz.func75, Tryz.ntmps75
   go_wp2
   refine bodyPost_end (v := .tuple #[]) (by simp [results, Tryz.results75, go_sem]) rfl ⟨rfl, Imm.refl _, HP.out⟩
  | p a b hh =>
   simp only [isV] at hv
   obtain ⟨bx, bb, o, hblk, hob, _, _⟩ := hv
   have v3 : w.cell? ⟨vb, 3, none⟩ = some (.pointer (some ⟨o, 0, none⟩)) := by rw [blk_cell hblk]; rfl
   have hvl := blk_lt hblk
   have hhl : hh < st.ops.length := by rw [← h.len]; exact (List.getElem?_eq_some_iff.1 hob).1
   obtain ⟨b', ro, e1, _, e3, e4⟩ := h.at hhl
   have hbo : b' = o := by rw [hob] at e1; cases e1; rfl
   subst hbo
   have o2 : w.cell? ⟨b', 2, none⟩ = some (.bool ro.ended) := by rw [blk_cell e4]; rfl
   have hol := blk_lt e4
   cases hen : ro.ended with
   | true =>
    rw [hen] at o2
    have hu : st.used (.p a b hh) = { st with e := 13 } := by
     unfold RS.used
     simp only
     rw [if_pos ⟨he, by rw [e3]; simp [hen]⟩]
    rw [hu]
    have HS : Hid _ := h.setE 13
    have HIM : Hid _ := h.immSet 6 (.int .i64 13)
    clear h hblk hob e1 e3 e4 he hu hen
    go_enter Tryz.func75, Tryz.ntmps75
    go_wp2
    refine bodyPost_end (v := .tuple #[]) (by simp [results, Tryz.results75, go_sem]) rfl ⟨rfl, HIM.out, HS.out⟩
   | false =>
    rw [hen] at o2
    have hu : st.used (.p a b hh) = st := by
     unfold RS.used
     simp only
     rw [if_neg (by rw [e3]; simp [hen])]
    rw [hu]
    clear h hblk hob e1 e3 e4 he hu hen
    go_enter Tryz.func75, Tryz.ntmps75
    go_wp2
    refine bodyPost_end (v := .tuple #[]) (by simp [results, Tryz.results75, go_sem]) rfl ⟨rfl, Imm.refl _, HP.out⟩
 ·have q : ((st.e : Int) == 0) = false := by rw [beq_eq_false_iff_ne]; omega
  have hu : st.used v = st := by
   unfold RS.used
   split
   ·rfl
   ·rw [if_neg (fun hc => he hc.1)]
  rw [hu]
  clear h hv he hu
  go_enter Tryz.func75, Tryz.ntmps75
  go_wp2
  refine bodyPost_end (v := .tuple #[]) (by simp [results, Tryz.results75, go_sem]) rfl ⟨rfl, Imm.refl _, HP.out⟩
def POut (w0 : World) (pb fuel : Nat) (w : World) (obs : List Nat) (r : RV × RS) (e : Ending) (w' : World) : Prop :=
 ∃ (vb : Nat) (ov wv tv : Value) (obs' : List Nat), e = .returned (.pointer (some ⟨vb, 0, none⟩)) ∧ isV w' obs' r.1 vb ∧ obs <+: obs' ∧ Imm w w' ∧ PlIn w0 w' pb ov wv tv obs' fuel r.2
theorem POut.pre {w0 : World} {pb fuel : Nat} {wz w w' : World} {oz obs : List Nat} {r : RV × RS} {e : Ending} (hi : Imm wz w) (ho : oz <+: obs) (h : POut w0 pb fuel w obs r e w') : POut w0 pb fuel wz oz r e w' := by
 obtain ⟨vb, ov, wv, tv, obs', h1, h2, h3, h4, h5⟩ := h
 exact ⟨vb, ov, wv, tv, obs', h1, h2, ho.trans h3, hi.trans h4, h5⟩
def PWork (w0 : World) (pb fuel : Nat) (t : PT) (G : TEnv) : Prop :=
 ∀ (id site b : Nat) (F : Nat → Prop) (env : REnv) (hp : Option Addr) (st : RS) (ov wv tv : Value) (obs : List Nat) (w : World), IsT w0 F t id site b → PlIn w0 w pb ov wv tv obs fuel st → isH w obs env hp → (st.e = 0 → REnvHas env G) → (st.e = 0 → POk fuel t.cnt st) →
  Calls Tryz.prog 43 #[ptr pb, ptr b, .pointer hp] w (POut w0 pb fuel w obs (rW fuel t env st))
def PGo (w0 : World) (pb fuel : Nat) (t : PT) (G : TEnv) : Prop :=
 ∀ (id site b : Nat) (F : Nat → Prop) (env : REnv) (hp : Option Addr) (st : RS) (ov wv tv : Value) (obs : List Nat) (w : World), IsT w0 F t id site b → PlIn w0 w pb ov wv tv obs fuel st → isH w obs env hp → REnvHas env G → POk fuel t.cnt st → st.e = 0 → st.steps ≠ fuel →
  Calls Tryz.prog 43 #[ptr pb, ptr b, .pointer hp] w (POut w0 pb fuel w obs (rW fuel t env st))
def PT.op : PT → List UInt8
 | .num _ _ => numB
 | .name _ _ => nameB
 | .node _ k _ _ _ => k.bytes
theorem isT_op {w0 : World} {F : Nat → Prop} {t : PT} {id site b : Nat} (h : IsT w0 F t id site b) : w0.cell? ⟨b, 0, none⟩ = some (.string (bs t.op)) ∧ b < w0.heap.size := by
 cases t with
 | num p s => simp only [IsT] at h; exact ⟨by rw [blk_cell h.2]; rfl, blk_lt h.2⟩
 | name p s => simp only [IsT] at h; exact ⟨by rw [blk_cell h.2]; rfl, blk_lt h.2⟩
 | node p k nm rg kids =>
  obtain ⟨_, _, ⟨h0, _, _⟩, hb, _⟩ := node_kid h
  exact ⟨h0, hb⟩
theorem rW_end {fuel : Nat} {t : PT} {env : REnv} {st : RS} (hn : ∀ p nm rg kids, t ≠ .node p .new nm rg kids) (h0 : st.e = 0) (hq : st.steps = fuel) : rW fuel t env st = (.n 0, { st with e := 12 }) := by
 cases t with
 | num p s => unfold rW rBegun; rw [if_neg (by simpa using h0), if_pos hq]
 | name p s => unfold rW rBegun; rw [if_neg (by simpa using h0), if_pos hq]
 | node p k nm rg kids =>
  have hk : k ≠ .new := fun e => hn p nm rg kids (by rw [e])
  unfold rW
  rw [if_neg hk]
  unfold rBegun; rw [if_neg (by simpa using h0), if_pos hq]
theorem op_new {t : PT} (hn : ∀ p nm rg kids, t ≠ .node p .new nm rg kids) : ((bs t.op).toList == [110, 101, 119]) = false := by
 rw [bs_beq0]
 cases t with
 | num p s => simp only [PT.op]; decide
 | name p s => simp only [PT.op]; decide
 | node p k nm rg kids =>
  have hk : k ≠ .new := fun e => hn p nm rg kids (by rw [e])
  simp only [PT.op]
  cases k <;> first | decide | exact absurd rfl hk
theorem size_set (w : World) (m : Nat) (p : Addr) (x : Value) : ((w.drewN m).setCell p x).heap.size = w.heap.size := by simp [World.setCell, World.drewN]
theorem zeroV {w0 w : World} {pb fuel : Nat} {ov wv tv : Value} {obs : List Nat} {st : RS} (h : PlIn w0 w pb ov wv tv obs fuel st) (k : Int) (n : Nat) (hn : w.heap.size = n) : POut w0 pb fuel w obs (.n k, st) (.returned (.pointer (some ⟨n, 0, none⟩))) (w.alloc (.cells #[.int .i64 k, .pointer none, .pointer none, .pointer none] 132)) := by
 have hb : Below w.heap.size w (w.alloc (.cells #[.int .i64 k, .pointer none, .pointer none, .pointer none] 132)) := (Below.refl _ _).alloc (Nat.le_refl _) _
 subst hn
 exact ⟨w.heap.size, ov, wv, tv, obs, rfl, by simp only [isV]; exact blk_new _ _, List.prefix_refl _, Imm.below hb, h.grow hb⟩
set_option maxRecDepth 100000 in
set_option maxHeartbeats 1000000 in
theorem pwork_bad {w0 : World} {pb fuel : Nat} {t : PT} (b : Nat) (hp : Option Addr) (env : REnv) (st : RS) (ov wv tv : Value) (obs : List Nat) (w : World) (h : PlIn w0 w pb ov wv tv obs fuel st) (he : st.e ≠ 0) : Calls Tryz.prog 43 #[ptr pb, ptr b, .pointer hp] w (POut w0 pb fuel w obs (rW fuel t env st)) := by
 rw [rW_bad fuel t env st he]
 obtain ⟨_, _, _, y6, hpl⟩ := h.c
 have q0 : ((st.e : Int) != 0) = true := by simp; omega
 have HZ : Hid _ := zeroV h 0 w.heap.size rfl
 clear h he
 show Calls _ _ #[Value.pointer (some ⟨pb, 0, none⟩), Value.pointer (some ⟨b, 0, none⟩), _] w _
 go_enter Tryz.func43, Tryz.ntmps43
 go_wp2
 go_ret
 exact HZ.out
set_option maxRecDepth 100000 in
set_option maxHeartbeats 1000000 in
theorem pwork_of {w0 : World} {pb fuel : Nat} {t : PT} {G : TEnv} (hn : ∀ p nm rg kids, t ≠ .node p .new nm rg kids) (h : PGo w0 pb fuel t G) : PWork w0 pb fuel t G := by
 intro id site b F env hp st ov wv tv obs w hT hP hH henv hok
 by_cases he : st.e = 0
 ·by_cases hq : st.steps = fuel
  ·rw [rW_end hn he hq]
   obtain ⟨c0, hbl⟩ := isT_op hT
   have x0 : w.cell? ⟨b, 0, none⟩ = some (.string (bs t.op)) := (hP.b0.cell (p := ⟨b, 0, none⟩) hbl).trans c0
   have qn := op_new hn
   have y3 := hP.c.1
   have y4 := hP.c.2.1
   have hpl := hP.c.2.2.2.2
   have y6 := hP.c6 he
   have f6 := blk_free hP.y 6
   have hbw : b < w.heap.size := by have := hP.b0.size; omega
   have hne : b ≠ pb := by have := hP.hpb; omega
   have q1 : ((st.steps : Int) == (fuel : Int)) = true := by rw [hq]; simp
   have HZ : Hid _ := fun m => (zeroV ((hP.drew m).setE 12) 0 w.heap.size (size_set _ _ _ _)).pre ((Imm.below (below_drewP w m)).trans ((hP.drew m).immSet 6 (.int .i64 12))) (List.prefix_refl obs)
   clear hT hP hH henv hok h he hq c0
   generalize t.op = op at *
   show Calls _ _ #[Value.pointer (some ⟨pb, 0, none⟩), Value.pointer (some ⟨b, 0, none⟩), _] w _
   go_enter Tryz.func43, Tryz.ntmps43
   go_wp2
   go_quiet (fail)
   go_wp2
   go_ret
   exact HZ.out _
  ·exact h id site b F env hp st ov wv tv obs w hT hP hH (henv he) (hok he) he hq
 ·exact pwork_bad b hp env st ov wv tv obs w hP he
set_option maxRecDepth 100000 in
set_option maxHeartbeats 1000000 in
theorem pwork_num {w0 : World} (pb fuel : Nat) (p : Nat) (s : List UInt8) (G : TEnv) : PGo w0 pb fuel (.num p s) G := by
 intro id site b F env hp st ov wv tv obs w hT hP hH henv hok he hq
 simp only [IsT] at hT
 have hbl := blk_lt hT.2
 have hbx : w.heap[b]? = some _ := (hP.b0.block b hbl).trans hT.2
 have x0 : w.cell? ⟨b, 0, none⟩ = some (.string (bs numB)) := by rw [blk_cell hbx]; rfl
 have x3 : w.cell? ⟨b, 3, none⟩ = some (.int .i64 (valueL s)) := by rw [blk_cell hbx]; rfl
 have q0 : ((bs numB).toList == [110, 101, 119]) = false := by rw [bs_beq0]; decide
 have q1 : ((bs numB).toList == [110, 117, 109, 98, 101, 114]) = true := by rw [bs_beq0]; decide
 have y3 := hP.c.1
 have y4 := hP.c.2.1
 have hpl := hP.c.2.2.2.2
 have y6 := hP.c6 he
 have f4 := blk_free hP.y 4
 have hbw : b < w.heap.size := blk_lt hbx
 have hne : b ≠ pb := by have := hP.hpb; omega
 have q9 : ((st.steps : Int) == (fuel : Int)) = false := by rw [beq_eq_false_iff_ne]; omega
 have hss := hok.s
 have hsf := hok.f
 have hev : rW fuel (.num p s) env st = (.n (valueL s), { st with steps := st.steps + 1 }) := by unfold rW rBegun; rw [if_neg (by simpa using he), if_neg hq]
 rw [hev]
 have HZ : Hid _ := fun m => (zeroV (hP.drew m).setS (valueL s) w.heap.size (size_set _ _ _ _)).pre ((Imm.below (below_drewP w m)).trans ((hP.drew m).immSet 4 (.int .i64 ((st.steps : Int) + 1)))) (List.prefix_refl obs)
 clear hT hP hH henv hok he hq hev hbx
 show Calls _ _ #[Value.pointer (some ⟨pb, 0, none⟩), Value.pointer (some ⟨b, 0, none⟩), _] w _
 go_enter Tryz.func43, Tryz.ntmps43
 go_wp2
 go_quiet (fail)
 go_wp2
 go_ret
 exact HZ.out _
end Go.Proofs.YtpicaknklgccoaaGreatDoor
namespace Go.Proofs.YtpicaknklgccoaaGreatDoor
open Go.RowKit
open Go.Lib (decDigits)
theorem Vl.txt_len (a b : Vl) : (Vl.p a b).txt.length = a.txt.length + b.txt.length + 3 := by simp only [Vl.txt, List.length_cons, List.length_append, List.length_nil]; omega
theorem Vl.has_len : ∀ {v : Vl} {T : Ty}, v.has T → v.txt.length ≤ 7 * T.size + 4
 | .n k, .n, h => by
  simp only [Vl.has] at h
  simp only [Vl.txt, Ty.size]
  rw [decDigits]; split
  ·simp
  ·rw [decDigits]; split
   ·simp
   ·rw [decDigits]; split
    ·simp
    ·rw [decDigits]; split
     ·simp
     ·omega
 | .p a b, .p _ x y, h => by
  simp only [Vl.has] at h
  have h1 := Vl.has_len h.1
  have h2 := Vl.has_len h.2
  rw [Vl.txt_len]
  simp only [Ty.size]; omega
 | .n _, .p _ _ _, h => by simp [Vl.has] at h
 | .p _ _, .n, h => by simp [Vl.has] at h
end Go.Proofs.YtpicaknklgccoaaGreatDoor
namespace Go.Proofs.YtpicaknklgccoaaGreatDoor
structure TN where
 kind : Nat
 at_ : Nat
 beh : Nat
 word : List UInt8
 num : Int
def kindN : Cl → Nat
 | .bad => 1
 | .opn => 2
 | .cls => 3
 | .nam => 4
 | .num => 5
 | .reg => 6
 | .kw .let_ => 7
 | .kw .pair => 8
 | .kw .fst => 9
 | .kw .snd => 10
 | .kw .if_ => 11
 | .kw .add => 12
 | .kw .sub => 13
 | .kw .less => 14
 | .kw .loop => 15
 | .kw .new => 16
def wordN (t : Tk) : List UInt8 := match t.c with
 | .nam => t.s
 | .kw _ => t.s
 | _ => []
def numN (t : Tk) : Int := match t.c with
 | .num => valueL t.s
 | .reg => valueL t.s
 | _ => 0
def tnOf (t : Tk) : TN := ⟨kindN t.c, t.at_, t.at_ + t.s.length, wordN t, numN t⟩
def tksAt (s : List UInt8) (p : Nat) : List Tk := toks (s.length - p) p (s.drop p)
def tk1 (len : Nat) (l : List Tk) : TN := match l with
 | [] => ⟨0, len, len, [], 0⟩
 | t :: _ => tnOf t
structure NR where
 form : Nat
 at_ : Nat
 beh : Nat
 num : Int
 word : List UInt8
 region : Int
 source : Int
 p0 : Int
 p1 : Int
 p2 : Int
structure PS where
 l : List Tk
 fl : Option Nat
 scope : List (List UInt8 × Int)
 nodes : List NR
 opened : List Int
def PS.fail (at_ : Nat) (st : PS) : PS := match st.fl with
 | some _ => st
 | none => { st with fl := some at_, l := [] }
def PS.tail (st : PS) : PS := { st with l := st.l.tail }
def PS.expect (len kind : Nat) (st : PS) : PS := if (tk1 len st.l).kind ≠ kind then st.tail.fail (tk1 len st.l).at_ else st.tail
def PS.add (n : NR) (st : PS) : PS := { st with nodes := st.nodes ++ [n] }
def findS (scope : List (List UInt8 × Int)) (w : List UInt8) : Int := match scope.reverse.find? (fun x => x.1 == w) with
 | some x => x.2
 | none => -1
def formN : Nat → Nat
 | 7 => 3
 | 8 => 4
 | 9 => 5
 | 10 => 6
 | 11 => 7
 | 12 => 8
 | 13 => 9
 | 14 => 10
 | 15 => 11
 | 16 => 12
 | _ => 0
def pBody (pE : PS → Int × PS) (word : List UInt8) (src : Int) (st : PS) : Int × PS :=
 let x := pE { st with scope := st.scope ++ [(word, src)] }
 (x.1, { x.2 with scope := x.2.scope.dropLast })
def pLet (len : Nat) (pE : PS → Int × PS) (n : NR) (st : PS) : NR × PS :=
 let nm := tk1 len st.l
 let x := pE (st.expect len 4)
 let y := pBody pE nm.word x.1 x.2
 ({ n with word := nm.word, p0 := x.1, p1 := y.1, p2 := -1 }, y.2)
def pLoop (len : Nat) (pE : PS → Int × PS) (n : NR) (st : PS) : NR × PS :=
 let t := pE st
 let nm := tk1 len t.2.l
 let x := pE (t.2.expect len 4)
 let y := pBody pE nm.word x.1 x.2
 ({ n with word := nm.word, p0 := t.1, p1 := x.1, p2 := y.1 }, y.2)
def pRegion (len : Nat) (n : NR) (st : PS) : NR × PS := ({ n with region := (tk1 len st.l).num }, st.expect len 6)
def pRow1 (pE : PS → Int × PS) (n : NR) (st : PS) : NR × PS :=
 let x := pE st
 ({ n with p0 := x.1 }, x.2)
def pRow2 (pE : PS → Int × PS) (n : NR) (st : PS) : NR × PS :=
 let x := pRow1 pE n st
 let y := pE x.2
 ({ x.1 with p1 := y.1 }, y.2)
def pRow3 (pE : PS → Int × PS) (n : NR) (st : PS) : NR × PS :=
 let x := pRow2 pE n st
 let y := pE x.2
 ({ x.1 with p2 := y.1 }, y.2)
def pFill (placed : Bool) (len : Nat) (pE : PS → Int × PS) (n : NR) (st : PS) : NR × PS :=
 if n.form = 3 then pLet len pE n st
 else if n.form = 11 then pLoop len pE n st
 else if n.form = 4 then (if placed then pRow2 pE (pRegion len n st).1 (pRegion len n st).2 else pRow2 pE n st)
 else if n.form = 12 then pRow1 pE (pRegion len n st).1 (pRegion len n st).2
 else if n.form = 5 ∨ n.form = 6 then pRow1 pE n st
 else if n.form = 7 then pRow3 pE n st
 else pRow2 pE n st
def pBracket (placed : Bool) (len : Nat) (pE : PS → Int × PS) (n : NR) (st : PS) : Int × PS :=
 let w := tk1 len st.l
 let f := formN w.kind
 if f = 0 ∨ (f = 12 ∧ placed = false) then (-1, st.tail.fail w.at_)
 else
  let x := pFill placed len pE { n with form := f } st.tail
  let e := tk1 len x.2.l
  (((x.2.expect len 3).nodes.length : Int), (x.2.expect len 3).add { x.1 with beh := e.beh })
def nodeT (t : TN) : NR := ⟨0, t.at_, t.beh, 0, [], 0, -1, -1, -1, -1⟩
def pAny (len : Nat) (pB : NR → PS → Int × PS) (st : PS) : Int × PS :=
 let t := tk1 len st.l
 if t.kind = 5 then ((st.nodes.length : Int), st.tail.add { nodeT t with form := 1, num := t.num })
 else if t.kind = 4 then ((st.nodes.length : Int), st.tail.add { nodeT t with form := 2, word := t.word, source := findS st.scope t.word })
 else if t.kind = 2 then pB (nodeT t) st.tail
 else (-1, st.tail.fail t.at_)
def pSeat (f : PS → Int × PS) (st : PS) : Int × PS :=
 let x := f { st with opened := st.opened ++ [-1] }
 (x.1, { x.2 with opened := x.2.opened.set st.opened.length x.1 })
def pExpr (placed : Bool) (len : Nat) : Nat → PS → Int × PS
 | 0 => pSeat (pAny len fun _ st => (-1, st))
 | m + 1 => pSeat (pAny len (pBracket placed len (pExpr placed len m)))
theorem kindN_num (c : Cl) : kindN c = 5 ↔ c = .num := by
 cases c with
 | kw k => cases k <;> decide
 | _ => decide
theorem kindN_nam (c : Cl) : kindN c = 4 ↔ c = .nam := by
 cases c with
 | kw k => cases k <;> decide
 | _ => decide
theorem kindN_opn (c : Cl) : kindN c = 2 ↔ c = .opn := by
 cases c with
 | kw k => cases k <;> decide
 | _ => decide
theorem kindN_cls (c : Cl) : kindN c = 3 ↔ c = .cls := by
 cases c with
 | kw k => cases k <;> decide
 | _ => decide
theorem kindN_reg (c : Cl) : kindN c = 6 ↔ c = .reg := by
 cases c with
 | kw k => cases k <;> decide
 | _ => decide
theorem kindN_pos (c : Cl) : kindN c ≠ 0 := by
 cases c with
 | kw k => cases k <;> decide
 | _ => decide
def PS.stuck (q : Nat) (st : PS) : Prop := st.fl = some q ∧ st.l = []
theorem stuck_fail {q a : Nat} {st : PS} (h : st.stuck q) : (st.fail a).stuck q := by
 obtain ⟨h1, h2⟩ := h
 unfold PS.fail; rw [h1]; exact ⟨h1, h2⟩
theorem stuck_tail {q : Nat} {st : PS} (h : st.stuck q) : st.tail.stuck q := ⟨h.1, by simp [PS.tail, h.2]⟩
theorem stuck_expect {q len k : Nat} {st : PS} (h : st.stuck q) : (st.expect len k).stuck q := by
 unfold PS.expect; split
 ·exact stuck_fail (stuck_tail h)
 ·exact stuck_tail h
theorem fail_stuck {a : Nat} {st : PS} (h : st.fl = none) : (st.fail a).stuck a := by
 unfold PS.fail; rw [h]; exact ⟨rfl, rfl⟩
def Keeps (pE : PS → Int × PS) : Prop := ∀ (q : Nat) (st : PS), st.stuck q → (pE st).2.stuck q
theorem keeps_any (len : Nat) (pB : NR → PS → Int × PS) : Keeps (pAny len pB) := by
 intro q st h
 unfold pAny
 simp only [h.2, tk1]
 exact stuck_fail (stuck_tail h)
theorem keeps_seat {f : PS → Int × PS} (hf : Keeps f) : Keeps (pSeat f) := by
 intro q st h
 exact hf q { st with opened := st.opened ++ [-1] } h
theorem keeps_expr (placed : Bool) (len n : Nat) : Keeps (pExpr placed len n) := by
 cases n with
 | zero => exact keeps_seat (keeps_any _ _)
 | succ m => exact keeps_seat (keeps_any _ _)
theorem keeps_body {pE : PS → Int × PS} (h : Keeps pE) (w : List UInt8) (src : Int) {q : Nat} {st : PS} (hs : st.stuck q) : (pBody pE w src st).2.stuck q := h q { st with scope := st.scope ++ [(w, src)] } hs
theorem tail_len (st : PS) : st.tail.l.length ≤ st.l.length := by simp [PS.tail]
inductive Ins | name | region | e | body
 deriving DecidableEq
def Ins.wt : Ins → Wt
 | .name => .name
 | .region => .region
 | .e => .e
 | .body => .e
def insK (k : Kw) (placed : Bool) : List Ins :=
 match k, placed with
 | .let_, _ => [.name, .e, .body]
 | .loop, _ => [.e, .name, .e, .body]
 | .pair, true => [.region, .e, .e]
 | .new, _ => [.region, .e]
 | .pair, false => [.e, .e]
 | .add, _ => [.e, .e]
 | .sub, _ => [.e, .e]
 | .less, _ => [.e, .e]
 | .fst, _ => [.e]
 | .snd, _ => [.e]
 | .if_, _ => [.e, .e, .e]
theorem insK_wants (k : Kw) (placed : Bool) (h : wantsK k placed ≠ []) : wantsK k placed = (insK k placed).map Ins.wt ++ [.close] := by
 cases k <;> cases placed <;> first | rfl | exact absurd rfl h
def wfI : List Ins → Bool
 | [] => true
 | .name :: is => !is.contains .name && is.head? != some .body && wfI is
 | .region :: is => !is.contains .region && is.head? != some .body && wfI is
 | .body :: is => !is.contains .name && wfI is
 | .e :: is => wfI is
theorem insK_wf (k : Kw) (placed : Bool) : wfI (insK k placed) = true := by cases k <;> cases placed <;> decide
structure FS where
 parts : List Int
 word : List UInt8
 region : Int
def pIns (len : Nat) (pE : PS → Int × PS) : List Ins → FS → PS → FS × PS
 | [], fs, st => (fs, st)
 | .name :: is, fs, st => pIns len pE is { fs with word := (tk1 len st.l).word } (st.expect len 4)
 | .region :: is, fs, st => pIns len pE is { fs with region := (tk1 len st.l).num } (st.expect len 6)
 | .e :: is, fs, st => pIns len pE is { fs with parts := fs.parts ++ [(pE st).1] } (pE st).2
 | .body :: is, fs, st => pIns len pE is { fs with parts := fs.parts ++ [(pBody pE fs.word (fs.parts.getLastD (-1)) st).1] } (pBody pE fs.word (fs.parts.getLastD (-1)) st).2
def formK (k : Kw) : Nat := formN (kindN (.kw k))
def NR.filled (n : NR) (fs : FS) : NR := { n with word := fs.word, region := fs.region, p0 := fs.parts.getD 0 (-1), p1 := fs.parts.getD 1 (-1), p2 := fs.parts.getD 2 (-1) }
theorem pFill_ins (placed : Bool) (len : Nat) (pE : PS → Int × PS) (k : Kw) (hk : wantsK k placed ≠ []) (at_ beh : Nat) (num : Int) (st : PS) :
  pFill placed len pE ⟨formK k, at_, beh, num, [], 0, -1, -1, -1, -1⟩ st =
   (NR.filled ⟨formK k, at_, beh, num, [], 0, -1, -1, -1, -1⟩ (pIns len pE (insK k placed) ⟨[], [], 0⟩ st).1, (pIns len pE (insK k placed) ⟨[], [], 0⟩ st).2) := by
 cases k <;> cases placed <;> first | rfl | exact absurd rfl hk
def partsL : List PT → Nat → List Int
 | [], _ => []
 | t :: r, base => (((base + t.cnt : Nat) : Int) - 1) :: partsL r (base + t.cnt)
mutual
def opn : PT → Nat → List Int
 | .num _ _, base => [(base : Int)]
 | .name _ _, base => [(base : Int)]
 | .node _ _ _ _ kids, base => ((base + cntL kids : Nat) : Int) :: opnL kids base
def opnL : List PT → Nat → List Int
 | [], _ => []
 | t :: r, base => opn t base ++ opnL r (base + t.cnt)
end
def bodsI : List Ins → List Bool
 | [] => []
 | .name :: is => bodsI is
 | .region :: is => bodsI is
 | .e :: is => false :: bodsI is
 | .body :: is => true :: bodsI is
def bodK : Kw → List Bool
 | .let_ => [false, true]
 | .loop => [false, false, true]
 | .pair => [false, false]
 | .new => [false]
 | .add => [false, false]
 | .sub => [false, false]
 | .less => [false, false]
 | .fst => [false]
 | .snd => [false]
 | .if_ => [false, false, false]
theorem bods_eq (k : Kw) (placed : Bool) : bodsI (insK k placed) = bodK k := by cases k <;> cases placed <;> rfl
abbrev Sc := List (List UInt8 × Int)
mutual
def NA (scope : Sc) : PT → Nat → List NR → Prop
 | .num p s, _, ns => ns = [⟨1, p, p + s.length, valueL s, [], 0, -1, -1, -1, -1⟩]
 | .name p s, _, ns => ns = [⟨2, p, p + s.length, 0, s, 0, findS scope s, -1, -1, -1⟩]
 | .node p k nm rg kids, base, ns => ∃ ks beh, NAs scope nm kids (bodK k) base ks ∧
   ns = ks ++ [⟨formK k, p, beh, 0, nm, valueL rg, -1, (partsL kids base).getD 0 (-1), (partsL kids base).getD 1 (-1), (partsL kids base).getD 2 (-1)⟩]
def NAs (scope : Sc) (nm : List UInt8) : List PT → List Bool → Nat → List NR → Prop
 | [], bs, _, ns => bs = [] ∧ ns = []
 | _ :: _, [], _, _ => False
 | t :: r, b :: bs, base, ns => ∃ a c, NA (if b then scope ++ [(nm, (base : Int) - 1)] else scope) t base a ∧ NAs scope nm r bs (base + t.cnt) c ∧ ns = a ++ c
end
mutual
theorem NA.len : ∀ {scope : Sc} {t : PT} {base : Nat} {ns : List NR}, NA scope t base ns → ns.length = t.cnt
 | _, .num _ _, _, _, h => by simp only [NA] at h; subst h; rfl
 | _, .name _ _, _, _, h => by simp only [NA] at h; subst h; rfl
 | _, .node _ _ _ _ kids, _, _, h => by
  simp only [NA] at h
  obtain ⟨ks, beh, h1, rfl⟩ := h
  have := NAs.len h1
  simp only [List.length_append, List.length_cons, List.length_nil, PT.cnt, this]; omega
theorem NAs.len : ∀ {scope : Sc} {nm : List UInt8} {ts : List PT} {bs : List Bool} {base : Nat} {ns : List NR}, NAs scope nm ts bs base ns → ns.length = cntL ts
 | _, _, [], _, _, _, h => by simp only [NAs] at h; simp [h.2, cntL]
 | _, _, _ :: _, [], _, _, h => by simp [NAs] at h
 | _, _, t :: r, b :: bs, _, _, h => by
  simp only [NAs] at h
  obtain ⟨a, c, h1, h2, rfl⟩ := h
  have := NA.len h1
  have := NAs.len h2
  simp only [List.length_append, cntL]; omega
end
mutual
theorem opn_len : ∀ (t : PT) (base : Nat), (opn t base).length = t.cnt
 | .num _ _, _ => rfl
 | .name _ _, _ => rfl
 | .node _ _ _ _ kids, base => by have := opnL_len kids base; simp only [opn, List.length_cons, PT.cnt, this]; omega
theorem opnL_len : ∀ (ts : List PT) (base : Nat), (opnL ts base).length = cntL ts
 | [], _ => rfl
 | t :: r, base => by have := opn_len t base; have := opnL_len r (base + t.cnt); simp only [opnL, List.length_append, cntL]; omega
end
theorem cnt_pos' (t : PT) : 0 < t.cnt := by cases t <;> simp [PT.cnt]; omega
def YesE (placed : Bool) (pE : PS → Int × PS) (m : Nat) : Prop := ∀ (l : List Tk) (e : PT) (r : List Tk), PE placed l e r → l.length ≤ m → ∀ st : PS, st.l = l → st.fl = none →
 ∃ ns, NA st.scope e st.nodes.length ns ∧ pE st = (((st.nodes.length + e.cnt : Nat) : Int) - 1, { st with l := r, nodes := st.nodes ++ ns, opened := st.opened ++ opn e st.nodes.length })
def NoE (placed : Bool) (len : Nat) (pE : PS → Int × PS) (m : Nat) : Prop := ∀ l : List Tk, l.length ≤ m → (¬ ∃ e r, PE placed l e r) → ∀ st : PS, st.l = l → st.fl = none →
 ∃ q, (∀ p, formRun placed len l (.e :: p) = some q) ∧ (pE st).2.stuck q
theorem body_yes {placed : Bool} {pE : PS → Int × PS} {m : Nat} (hY : YesE placed pE m) (w : List UInt8) (src : Int) {l : List Tk} {e : PT} {r : List Tk} (h : PE placed l e r) (hm : l.length ≤ m) (st : PS) (hl : st.l = l) (hf : st.fl = none) :
  ∃ ns, NA (st.scope ++ [(w, src)]) e st.nodes.length ns ∧ pBody pE w src st = (((st.nodes.length + e.cnt : Nat) : Int) - 1, { st with l := r, nodes := st.nodes ++ ns, opened := st.opened ++ opn e st.nodes.length }) := by
 obtain ⟨ns, h1, h2⟩ := hY l e r h hm { st with scope := st.scope ++ [(w, src)] } hl hf
 refine ⟨ns, h1, ?_⟩
 unfold pBody
 simp only [h2, List.dropLast_concat]
theorem ins_yes {placed : Bool} (len : Nat) {pE : PS → Int × PS} {m : Nat} (hY : YesE placed pE m) : ∀ (is : List Ins) (l : List Tk) (nm rg : List UInt8) (kids : List PT) (r : List Tk), PW placed (is.map Ins.wt ++ [.close]) l nm rg kids r → wfI is = true →
  l.length ≤ m → ∀ (st : PS) (fs : FS) (nm0 : List UInt8), st.l = l → st.fl = none → (is.head? = some .body → fs.parts.getLastD (-1) = (st.nodes.length : Int) - 1) → (if is.contains .name then nm else fs.word) = nm0 →
  ∃ t ns, t.c = .cls ∧ NAs st.scope nm0 kids (bodsI is) st.nodes.length ns ∧
   pIns len pE is fs st = (⟨fs.parts ++ partsL kids st.nodes.length, nm0, if is.contains .region then valueL rg else fs.region⟩, { st with l := t :: r, nodes := st.nodes ++ ns, opened := st.opened ++ opnL kids st.nodes.length }) := by
 intro is
 induction is with
 | nil =>
  intro l nm rg kids r h _ hm st fs nm0 hl hf _ hw
  simp only [List.map_nil, List.nil_append] at h
  cases h with
  | close hc h1 =>
   cases h1
   refine ⟨_, [], hc, ⟨rfl, rfl⟩, ?_⟩
   simp only [pIns, partsL, opnL, List.append_nil]
   simp at hw
   rw [← hl, ← hw]; rfl
 | cons i is ih =>
  intro l nm rg kids r h hwf hm st fs nm0 hl hf hlast hw
  cases i with
  | name =>
   simp only [List.map_cons, Ins.wt, List.cons_append] at h
   simp only [wfI, Bool.and_eq_true, Bool.not_eq_true'] at hwf
   obtain ⟨⟨hw1, hw2⟩, hw3⟩ := hwf
   cases h with
   | name hc h1 =>
    rename_i t r1 nm1
    simp only [List.length_cons] at hm
    have hk : (tk1 len st.l).kind = 4 := by rw [hl]; exact (kindN_nam _).2 hc
    have hex : st.expect len 4 = { st with l := r1 } := by
     unfold PS.expect; rw [if_neg (by simp [hk])]; simp [PS.tail, hl]
    have hword : (tk1 len st.l).word = t.s := by rw [hl]; simp [tk1, tnOf, wordN, hc]
    have hw' : (if is.contains .name then nm1 else t.s) = nm0 := by
     rw [hw1]; simpa using hw
    obtain ⟨t', ns, h2, h3, h4⟩ := ih r1 nm1 rg kids r h1 hw3 (by omega) { st with l := r1 } { fs with word := t.s } nm0 rfl hf (fun e => by rw [e] at hw2; simp at hw2) hw'
    refine ⟨t', ns, h2, h3, ?_⟩
    simp only [pIns]
    rw [hex, hword, h4]
    simp
  | region =>
   simp only [List.map_cons, Ins.wt, List.cons_append] at h
   simp only [wfI, Bool.and_eq_true, Bool.not_eq_true'] at hwf
   obtain ⟨⟨hw1, hw2⟩, hw3⟩ := hwf
   cases h with
   | region hc h1 =>
    rename_i t r1 rg1
    simp only [List.length_cons] at hm
    have hk : (tk1 len st.l).kind = 6 := by rw [hl]; exact (kindN_reg _).2 hc
    have hex : st.expect len 6 = { st with l := r1 } := by
     unfold PS.expect; rw [if_neg (by simp [hk])]; simp [PS.tail, hl]
    have hnum : (tk1 len st.l).num = valueL t.s := by rw [hl]; simp [tk1, tnOf, numN, hc]
    have hw' : (if is.contains .name then nm else fs.word) = nm0 := by simpa using hw
    obtain ⟨t', ns, h2, h3, h4⟩ := ih r1 nm rg1 kids r h1 hw3 (by omega) { st with l := r1 } { fs with region := valueL t.s } nm0 rfl hf (fun e => by rw [e] at hw2; simp at hw2) hw'
    refine ⟨t', ns, h2, h3, ?_⟩
    simp only [pIns]
    rw [hex, hnum, h4, hw1]
    simp
  | e =>
   simp only [List.map_cons, Ins.wt, List.cons_append] at h
   simp only [wfI] at hwf
   cases h with
   | e he h1 =>
    rename_i e r1 kids1
    have hlt := he.len
    obtain ⟨ns1, hn1, hp1⟩ := hY l e r1 he hm st hl hf
    have hw' : (if is.contains .name then nm else fs.word) = nm0 := by simpa using hw
    have hlen := hn1.len
    obtain ⟨t', ns, h2, h3, h4⟩ := ih r1 nm rg kids1 r h1 hwf (by omega) (pE st).2 { fs with parts := fs.parts ++ [(pE st).1] } nm0 (by rw [hp1]) (by rw [hp1]; exact hf)
     (fun _ => by rw [hp1]; simp [hlen]) hw'
    refine ⟨t', ns1 ++ ns, h2, ?_, ?_⟩
    ·rw [hp1] at h3
     simp only [bodsI, NAs]
     simp only [List.length_append, hlen] at h3
     exact ⟨ns1, ns, hn1, h3, rfl⟩
    ·simp only [pIns]
     rw [h4, hp1]
     simp [partsL, opnL, hlen]
  | body =>
   simp only [List.map_cons, Ins.wt, List.cons_append] at h
   simp only [wfI, Bool.and_eq_true, Bool.not_eq_true'] at hwf
   cases h with
   | e he h1 =>
    rename_i e r1 kids1
    have hlt := he.len
    have hw0 : fs.word = nm0 := by
     have : (Ins.body :: is).contains .name = false := by simpa using hwf.1
     rw [this] at hw; simpa using hw
    have hla := hlast rfl
    obtain ⟨ns1, hn1, hp1⟩ := body_yes hY fs.word (fs.parts.getLastD (-1)) he hm st hl hf
    have hw' : (if is.contains .name then nm else fs.word) = nm0 := by rw [hwf.1]; simpa using hw0
    have hlen := hn1.len
    obtain ⟨t', ns, h2, h3, h4⟩ := ih r1 nm rg kids1 r h1 hwf.2 (by omega) (pBody pE fs.word (fs.parts.getLastD (-1)) st).2 { fs with parts := fs.parts ++ [(pBody pE fs.word (fs.parts.getLastD (-1)) st).1] } nm0 (by rw [hp1]) (by rw [hp1]; exact hf)
     (fun _ => by rw [hp1]; simp [hlen]) hw'
    refine ⟨t', ns1 ++ ns, h2, ?_, ?_⟩
    ·rw [hp1] at h3
     simp only [bodsI, NAs]
     simp only [List.length_append, hlen] at h3
     rw [hw0, hla] at hn1
     exact ⟨ns1, ns, hn1, h3, rfl⟩
    ·simp only [pIns]
     rw [h4, hp1]
     simp [partsL, opnL, hlen]
theorem keeps_ins {pE : PS → Int × PS} (h : Keeps pE) (len : Nat) {q : Nat} : ∀ (is : List Ins) (fs : FS) (st : PS), st.stuck q → (pIns len pE is fs st).2.stuck q := by
 intro is
 induction is with
 | nil => intro fs st hs; exact hs
 | cons i is ih =>
  intro fs st hs
  cases i with
  | name => exact ih _ _ (stuck_expect hs)
  | region => exact ih _ _ (stuck_expect hs)
  | e => exact ih _ _ (h q st hs)
  | body => exact ih _ _ (keeps_body h _ _ hs)
theorem expect_no {len k : Nat} {st : PS} (hf : st.fl = none) (hk : (tk1 len st.l).kind ≠ k) : (st.expect len k).stuck (tk1 len st.l).at_ := by
 unfold PS.expect; rw [if_pos hk]
 exact fail_stuck hf
theorem ins_no {placed : Bool} {len : Nat} {pE : PS → Int × PS} {m : Nat} (hY : YesE placed pE m) (hN : NoE placed len pE m) (hK : Keeps pE) : ∀ (is : List Ins) (l : List Tk), (¬ ∃ nm rg kids r, PW placed (is.map Ins.wt ++ [.close]) l nm rg kids r) →
  l.length ≤ m → ∀ (st : PS) (fs : FS), st.l = l → st.fl = none → ∃ q, (∀ p, formRun placed len l (is.map Ins.wt ++ .close :: p) = some q) ∧ ((pIns len pE is fs st).2.expect len 3).stuck q := by
 intro is
 induction is with
 | nil =>
  intro l h hm st fs hl hf
  simp only [List.map_nil, List.nil_append, pIns] at h ⊢
  cases l with
  | nil => exact ⟨len, fun p => rfl, by have := expect_no (len := len) (k := 3) hf (by rw [hl]; simp [tk1]); rw [hl] at this; exact this⟩
  | cons t r =>
   by_cases hc : t.c = .cls
   ·exact absurd ⟨_, _, _, _, .close hc .nil⟩ h
   ·refine ⟨t.at_, fun p => by simp only [formRun, if_neg hc], ?_⟩
    have := expect_no (len := len) (k := 3) hf (by rw [hl]; exact fun e => hc ((kindN_cls _).1 e))
    rw [hl] at this; exact this
 | cons i is ih =>
  intro l h hm st fs hl hf
  cases i with
  | name =>
   simp only [List.map_cons, Ins.wt, List.cons_append] at h ⊢
   simp only [pIns]
   cases l with
   | nil =>
    refine ⟨len, fun p => rfl, ?_⟩
    have := expect_no (len := len) (k := 4) hf (by rw [hl]; simp [tk1])
    rw [hl] at this
    exact stuck_expect (keeps_ins hK len is _ _ this)
   | cons t r =>
    by_cases hc : t.c = .nam
    ·have hk : (tk1 len st.l).kind = 4 := by rw [hl]; exact (kindN_nam _).2 hc
     have hex : st.expect len 4 = { st with l := r } := by
      unfold PS.expect; rw [if_neg (by simp [hk])]; simp [PS.tail, hl]
     rw [hex]
     obtain ⟨q, h1, h2⟩ := ih r (fun ⟨nm, rg, kids, r', hp⟩ => h ⟨_, _, _, _, .name hc hp⟩) (by simp at hm; omega) { st with l := r } { fs with word := (tk1 len st.l).word } rfl hf
     exact ⟨q, fun p => by simp only [formRun, if_pos hc]; exact h1 p, h2⟩
    ·refine ⟨t.at_, fun p => by simp only [formRun, if_neg hc], ?_⟩
     have := expect_no (len := len) (k := 4) hf (by rw [hl]; exact fun e => hc ((kindN_nam _).1 e))
     rw [hl] at this
     exact stuck_expect (keeps_ins hK len is _ _ this)
  | region =>
   simp only [List.map_cons, Ins.wt, List.cons_append] at h ⊢
   simp only [pIns]
   cases l with
   | nil =>
    refine ⟨len, fun p => rfl, ?_⟩
    have := expect_no (len := len) (k := 6) hf (by rw [hl]; simp [tk1])
    rw [hl] at this
    exact stuck_expect (keeps_ins hK len is _ _ this)
   | cons t r =>
    by_cases hc : t.c = .reg
    ·have hk : (tk1 len st.l).kind = 6 := by rw [hl]; exact (kindN_reg _).2 hc
     have hex : st.expect len 6 = { st with l := r } := by
      unfold PS.expect; rw [if_neg (by simp [hk])]; simp [PS.tail, hl]
     rw [hex]
     obtain ⟨q, h1, h2⟩ := ih r (fun ⟨nm, rg, kids, r', hp⟩ => h ⟨_, _, _, _, .region hc hp⟩) (by simp at hm; omega) { st with l := r } { fs with region := (tk1 len st.l).num } rfl hf
     exact ⟨q, fun p => by simp only [formRun, if_pos hc]; exact h1 p, h2⟩
    ·refine ⟨t.at_, fun p => by simp only [formRun, if_neg hc], ?_⟩
     have := expect_no (len := len) (k := 6) hf (by rw [hl]; exact fun e => hc ((kindN_reg _).1 e))
     rw [hl] at this
     exact stuck_expect (keeps_ins hK len is _ _ this)
  | e =>
   simp only [List.map_cons, Ins.wt, List.cons_append] at h ⊢
   simp only [pIns]
   by_cases he : ∃ e r, PE placed l e r
   ·obtain ⟨e, r, he⟩ := he
    obtain ⟨ns1, hn1, hp1⟩ := hY l e r he hm st hl hf
    have hlt := he.len
    obtain ⟨q, h1, h2⟩ := ih r (fun ⟨nm, rg, kids, r', hp⟩ => h ⟨_, _, _, _, .e he hp⟩) (by omega) (pE st).2 { fs with parts := fs.parts ++ [(pE st).1] } (by rw [hp1]) (by rw [hp1]; exact hf)
    exact ⟨q, fun p => by rw [he.sound]; exact h1 p, h2⟩
   ·obtain ⟨q, h1, h2⟩ := hN l hm he st hl hf
    exact ⟨q, fun p => h1 _, stuck_expect (keeps_ins hK len is _ _ h2)⟩
  | body =>
   simp only [List.map_cons, Ins.wt, List.cons_append] at h ⊢
   simp only [pIns]
   by_cases he : ∃ e r, PE placed l e r
   ·obtain ⟨e, r, he⟩ := he
    obtain ⟨ns1, hn1, hp1⟩ := body_yes hY fs.word (fs.parts.getLastD (-1)) he hm st hl hf
    have hlt := he.len
    obtain ⟨q, h1, h2⟩ := ih r (fun ⟨nm, rg, kids, r', hp⟩ => h ⟨_, _, _, _, .e he hp⟩) (by omega) (pBody pE fs.word (fs.parts.getLastD (-1)) st).2 { fs with parts := fs.parts ++ [(pBody pE fs.word (fs.parts.getLastD (-1)) st).1] } (by rw [hp1]) (by rw [hp1]; exact hf)
    exact ⟨q, fun p => by rw [he.sound]; exact h1 p, h2⟩
   ·obtain ⟨q, h1, h2⟩ := hN l hm he { st with scope := st.scope ++ [(fs.word, fs.parts.getLastD (-1))] } hl hf
    exact ⟨q, fun p => h1 _, stuck_expect (keeps_ins hK len is _ _ h2)⟩
end Go.Proofs.YtpicaknklgccoaaGreatDoor
