import Derived.Test.YtpicaknklgccoaaGreatDoorX16
import Derived.Test.YtpicaknklgccoaaGreatDoorX17
import Derived.Test.YtpicaknklgccoaaGreatDoorX11
import Derived.Test.YtpicaknklgccoaaGreatDoorX10
import Derived.Test.YtpicaknklgccoaaGreatDoorX15
namespace Go.Proofs.YtpicaknklgccoaaGreatDoor
open Go.RowKit
open Go.Lib (decDigits)
theorem pwork_any {w0 : World} (pb fuel : Nat) {G : TEnv} {t : PT} {T : Ty} (h : WT G t T) : t.tame → t.wf → PWork w0 pb fuel t G := by
 induction h with
 | num => intro _ _; exact pwork_of (fun _ _ _ _ => by simp) (pwork_num pb fuel _ _ _)
 | name hl => intro _ _; exact pwork_of (fun _ _ _ _ => by simp) (pwork_name pb fuel _ _ _)
 | let_ ha hb iha ihb =>
  intro ht hw
  simp only [PT.tame, tameL] at ht
  simp only [PT.wf, wfL] at hw
  exact pwork_of (fun _ _ _ _ => by simp) (pwork_let pb fuel _ _ _ _ _ _ _ ha ht.2.1 hw.2.1 (iha ht.2.1 hw.2.1) (ihb ht.2.2.1 hw.2.2.1))
 | @pair G p nm rg a b A B ha hb hsz iha ihb =>
  intro ht hw
  simp only [PT.tame, tameL] at ht
  simp only [PT.wf, wfL] at hw
  refine pwork_of (fun _ _ _ _ => by simp) (pwork_parts pb fuel _ _ _ _ _ _ (by decide) (by decide) (by decide) (by decide) (pparts_pair pb fuel _ _ _ _ _ _ hw.2.1 hw.2.2.1 (iha ht.2.1 hw.2.1) (ihb ht.2.2.1 hw.2.2.1) (fun env st e => ?_)))
  apply Classical.byContradiction
  intro h0
  rw [rW_bad fuel b env st h0] at e
  exact h0 e
 | fst ha iha =>
  intro ht hw
  simp only [PT.tame, tameL] at ht
  simp only [PT.wf, wfL] at hw
  exact pwork_of (fun _ _ _ _ => by simp) (pwork_parts pb fuel _ _ _ _ _ _ (by decide) (by decide) (by decide) (by decide) (pparts_fst pb fuel _ _ _ _ _ _ _ ha ht.2.1 (iha ht.2.1 hw.2.1)))
 | snd ha iha =>
  intro ht hw
  simp only [PT.tame, tameL] at ht
  simp only [PT.wf, wfL] at hw
  exact pwork_of (fun _ _ _ _ => by simp) (pwork_parts pb fuel _ _ _ _ _ _ (by decide) (by decide) (by decide) (by decide) (pparts_snd pb fuel _ _ _ _ _ _ _ ha ht.2.1 (iha ht.2.1 hw.2.1)))
 | if_ ha hb hc iha ihb ihc =>
  intro ht hw
  simp only [PT.tame, tameL] at ht
  simp only [PT.wf, wfL] at hw
  exact pwork_of (fun _ _ _ _ => by simp) (pwork_if pb fuel _ _ _ _ _ _ _ ha ht.2.1 hw.2.1 (iha ht.2.1 hw.2.1) (ihb ht.2.2.1 hw.2.2.1) (ihc ht.2.2.2.1 hw.2.2.2.1))
 | two hk ha hb iha ihb =>
  intro ht hw
  simp only [PT.tame, tameL] at ht
  simp only [PT.wf, wfL] at hw
  have i1 := iha ht.2.1 hw.2.1
  have i2 := ihb ht.2.2.1 hw.2.2.1
  rcases hk with rfl | rfl | rfl
  ·exact pwork_of (fun _ _ _ _ => by simp) (pwork_parts pb fuel _ _ _ _ _ _ (by decide) (by decide) (by decide) (by decide) (pparts_add pb fuel _ _ _ _ _ _ ha hb ht.2.1 ht.2.2.1 hw.2.1 i1 i2))
  ·exact pwork_of (fun _ _ _ _ => by simp) (pwork_parts pb fuel _ _ _ _ _ _ (by decide) (by decide) (by decide) (by decide) (pparts_sub pb fuel _ _ _ _ _ _ ha hb ht.2.1 ht.2.2.1 hw.2.1 i1 i2))
  ·exact pwork_of (fun _ _ _ _ => by simp) (pwork_parts pb fuel _ _ _ _ _ _ (by decide) (by decide) (by decide) (by decide) (pparts_less pb fuel _ _ _ _ _ _ ha hb ht.2.1 ht.2.2.1 hw.2.1 i1 i2))
 | loop ha hb hc iha ihb ihc =>
  intro ht hw
  simp only [PT.tame, tameL] at ht
  simp only [PT.wf, wfL] at hw
  exact pwork_of (fun _ _ _ _ => by simp) (pwork_loop pb fuel _ _ _ _ _ _ _ _ ha hb hc ht.2.1 ht.2.2.1 ht.2.2.2.1 hw.2.1 hw.2.2.1 hw.2.2.2.1 (iha ht.2.1 hw.2.1) (ihb ht.2.2.1 hw.2.2.1) (ihc ht.2.2.2.1 hw.2.2.2.1))
 | new ha iha =>
  intro ht hw
  simp only [PT.tame, tameL] at ht
  simp only [PT.wf, wfL] at hw
  exact pwork_new pb fuel _ _ _ _ _ (fun id site b F env hp st ov wv tv obs w hT hP hH henv hok he => scope_any pb fuel _ _ _ _ _ hw.2.1 (iha ht.2.1 hw.2.1) id site b F env hp st ov wv tv obs w hT hP hH henv hok he)
def RV.vl : RV → Vl
 | .n k => .n k.toNat
 | .p a b _ => .p a.vl b.vl
def rTold : RV → RS → List UInt8 × RS
 | .n k, st => (decDigits k.toNat, st)
 | .p a b h, st =>
  if (st.used (.p a b h)).e ≠ 0 then ([], st.used (.p a b h))
  else (91 :: ((rTold a (st.used (.p a b h))).1 ++ (32 :: ((rTold b (rTold a (st.used (.p a b h))).2).1 ++ [93]))), (rTold b (rTold a (st.used (.p a b h))).2).2)
theorem decDigits_len4 (k : Nat) (h : k ≤ 9999) : (decDigits k).length ≤ 4 := by
 have := Vl.has_len (v := .n k) (T := .n) (by simp only [Vl.has]; exact h)
 simpa [Vl.txt, Ty.size] using this
theorem rTold_len : ∀ (v : RV) (st : RS) {T : Ty}, v.has T → (rTold v st).1.length ≤ 7 * T.size + 4
 | .n k, st, .n, h => by
  simp only [RV.has] at h
  simp only [rTold, Ty.size]
  have := decDigits_len4 k.toNat (by omega)
  omega
 | .p a b hh, st, .p r A B, h => by
  simp only [RV.has] at h
  unfold rTold
  split
  ·simp
  ·have h1 := rTold_len a (st.used (.p a b hh)) h.1
   have h2 := rTold_len b (rTold a (st.used (.p a b hh))).2 h.2
   simp only [Ty.size, List.length_cons, List.length_append, List.length_nil]
   omega
 | .n _, _, .p _ _ _, h => by simp [RV.has] at h
 | .p _ _ _, _, .n, h => by simp [RV.has] at h
theorem bs_told (x y : List UInt8) : bs (91 :: (x ++ (32 :: (y ++ [93])))) = ByteArray.mk #[91] ++ bs x ++ ByteArray.mk #[32] ++ bs y ++ ByteArray.mk #[93] := by
 apply ByteArray.ext
 simp [bs]
set_option maxRecDepth 100000 in
set_option maxHeartbeats 4000000 in
theorem told_any {w0 : World} (hit : ItoaOk w0) (pb fuel : Nat) (ov wv tv : Value) (obs : List Nat) : ∀ (v : RV) (T : Ty) (st : RS) (vb : Nat) (w : World), v.has T → T.size ≤ 63 → isV w obs v vb → PlIn w0 w pb ov wv tv obs fuel st →
  Calls Tryz.prog 44 #[ptr pb, ptr vb] w fun e w' => e = .returned (.string (bs (rTold v st).1)) ∧ Imm w w' ∧ PlIn w0 w' pb ov wv tv obs fuel (rTold v st).2
 | .n k, T, st, vb, w, hT, hsz, hv, hP => by
  cases T with
  | p r A B => simp [RV.has] at hT
  | n =>
  simp only [RV.has] at hT
  simp only [isV] at hv
  obtain ⟨n, rfl⟩ : ∃ n : Nat, k = n := ⟨k.toNat, by omega⟩
  have v0' : w.cell? ⟨vb, 0, none⟩ = some (.int .i64 n) := by rw [blk_cell hv]; rfl
  have v1' : w.cell? ⟨vb, 1, none⟩ = some (.pointer none) := by rw [blk_cell hv]; rfl
  have hvl := blk_lt hv
  have hi := hit n w (by omega) hP.b0
  have HP : Hid _ := hP
  have hE : rTold (.n (n : Int)) st = (decDigits n, st) := by simp only [rTold, Int.toNat_natCast]
  have HE : Hid _ := hE
  clear hP hv hT hit hE
  show Calls _ _ #[Value.pointer (some ⟨pb, 0, none⟩), Value.pointer (some ⟨vb, 0, none⟩)] w _
  go_enter Tryz.func44, Tryz.ntmps44
  go_wp2_with fail
  refine hi.mono ?_
  rintro _ w2 ⟨rfl, hb2⟩
  go_wp2
  go_ret
  rw [HE.out]
  exact ⟨rfl, Imm.below hb2, HP.out.grow hb2⟩
 | .p a b hh, T, st, vb, w, hT, hsz, hv, hP => by
  cases T with
  | n => simp [RV.has] at hT
  | p r A B =>
  have hus := used_any pb fuel ov wv tv obs st w (.p a b hh) vb hP hv
  simp only [RV.has] at hT
  simp only [isV] at hv
  simp only [Ty.size] at hsz
  obtain ⟨ba, bb, o, hblk, hob, hva, hvb⟩ := hv
  have v1' : w.cell? ⟨vb, 1, none⟩ = some (.pointer (some ⟨ba, 0, none⟩)) := by rw [blk_cell hblk]; rfl
  have hvl := blk_lt hblk
  have iha := fun st w hv hP => told_any hit pb fuel ov wv tv obs a A st ba w hT.1 (by omega) hv hP
  have ihb := fun st w hv hP => told_any hit pb fuel ov wv tv obs b B st bb w hT.2 (by omega) hv hP
  have HVA : Hid _ := hva
  have HVB : Hid _ := hvb
  have HBK : Hid _ := hblk
  have HIA : Hid _ := iha
  have HIB : Hid _ := ihb
  have hla := fun st => rTold_len a st hT.1
  have hlb := fun st => rTold_len b st hT.2
  have HLA : Hid _ := hla
  have HLB : Hid _ := hlb
  obtain ⟨R, hR⟩ : ∃ R, R = rTold (.p a b hh) st := ⟨_, rfl⟩
  rw [← hR]
  have HR : Hid _ := hR
  unfold ptr at hus
  clear hit hP hva hvb hblk hob iha ihb hla hlb hR
  show Calls _ _ #[Value.pointer (some ⟨pb, 0, none⟩), Value.pointer (some ⟨vb, 0, none⟩)] w _
  go_enter Tryz.func44, Tryz.ntmps44
  go_wp2_with fail
  refine hus.mono ?_
  rintro _ w2 ⟨rfl, hi2, hP2⟩
  obtain ⟨s1, hs1⟩ : ∃ s1, s1 = st.used (.p a b hh) := ⟨_, rfl⟩
  rw [← hs1] at hP2
  have e6 := hP2.c.2.2.2.1
  have hpl := hP2.c.2.2.2.2
  by_cases he : s1.e = 0
  ·have qe : ((s1.e : Int) != 0) = false := by rw [he]; rfl
   have hRR : R = (91 :: ((rTold a s1).1 ++ (32 :: ((rTold b (rTold a s1).2).1 ++ [93]))), (rTold b (rTold a s1).2).2) := by
    rw [HR.out]; conv => lhs; unfold rTold
    rw [← hs1, if_neg (fun h => h he)]
   have hb2 := hi2.v _ _ HBK.out
   have z1 : w2.cell? ⟨vb, 1, none⟩ = some (.pointer (some ⟨ba, 0, none⟩)) := by rw [blk_cell hb2]; rfl
   have zl := blk_lt hb2
   have hca := HIA.out s1 w2 (HVA.out.keep hi2 (List.prefix_refl _)) hP2
   have hln := HLA.out s1
   generalize rTold a s1 = x at *
   have HRR : Hid _ := hRR
   have HI2 : Hid _ := hi2
   unfold ptr at hca
   clear hP2 hRR hi2 hb2 he hs1 HR hus HIA HVA HLA
   go_wp2_with fail
   refine hca.mono ?_
   rintro _ w3 ⟨rfl, hi3, hP3⟩
   have hb3 := hi3.v _ _ (HI2.out.v _ _ HBK.out)
   have y2 : w3.cell? ⟨vb, 2, none⟩ = some (.pointer (some ⟨bb, 0, none⟩)) := by rw [blk_cell hb3]; rfl
   have yl := blk_lt hb3
   have hcb := HIB.out x.2 w3 (HVB.out.keep (HI2.out.trans hi3) (List.prefix_refl _)) hP3
   have hlm := HLB.out x.2
   generalize rTold b x.2 = y at *
   have HI3 : Hid _ := HI2.out.trans hi3
   unfold ptr at hcb
   clear hP3 hi3 hb3 hca HIB HVB HLB HI2 HBK
   go_wp2_with fail
   refine hcb.mono ?_
   rintro _ w4 ⟨rfl, hi4, hP4⟩
   have HP4 : Hid _ := hP4
   have HI4 : Hid _ := HI3.out.trans hi4
   have t1 : (ByteArray.mk #[91]).size = 1 := rfl
   have t0 : (bs x.1).size ≤ 1000 := by rw [bs_size]; omega
   have t2 : (ByteArray.mk #[91] ++ bs x.1).size ≤ 1001 := by rw [ByteArray.size_append, t1]; omega
   have t3 : (ByteArray.mk #[32]).size = 1 := rfl
   have t4 : (ByteArray.mk #[91] ++ bs x.1 ++ ByteArray.mk #[32]).size ≤ 1002 := by rw [ByteArray.size_append, t3]; omega
   have t5 : (bs y.1).size ≤ 1000 := by rw [bs_size]; omega
   have t6 : (ByteArray.mk #[91] ++ bs x.1 ++ ByteArray.mk #[32] ++ bs y.1).size ≤ 2002 := by rw [ByteArray.size_append]; omega
   have t7 : (ByteArray.mk #[93]).size = 1 := rfl
   clear hP4 hi4 hcb HI3
   go_wp2
   go_ret
   rw [HRR.out]
   refine ⟨?_, HI4.out, HP4.out⟩
   simp only
   rw [bs_told]; rfl
  ·have qe : ((s1.e : Int) != 0) = true := by simp; omega
   have hRR : R = ([], s1) := by
    rw [HR.out]; conv => lhs; unfold rTold
    rw [← hs1, if_pos he]
   have HRR : Hid _ := hRR
   have HP2 : Hid _ := hP2
   have HI2 : Hid _ := hi2
   clear hP2 hRR hi2 he hs1 HR hus HIA HVA HIB HVB HLA HLB HBK
   go_wp2
   go_ret
   rw [HRR.out]
   exact ⟨rfl, HI2.out, HP2.out⟩
end Go.Proofs.YtpicaknklgccoaaGreatDoor
namespace Go.Proofs.YtpicaknklgccoaaGreatDoor
theorem mTurns_keep (i : Int) (f : MM → MV × MM) (k : Nat) (v : MV) (m : MM) (h : m.fault ≠ 0) : (mTurns i f k v m).2 = m := by
 cases k with
 | zero => rfl
 | succ k => simp only [mTurns]; rw [if_pos h]
theorem NoNew.kids {p : Nat} {k : Kw} {nm rg : List UInt8} {kids : List PT} (h : NoNew (.node p k nm rg kids)) : k ≠ .new ∧ ∀ x ∈ kids, NoNew x := by
 cases h with
 | node hk h => exact ⟨hk, h⟩
def RRep (cells : List MC) (sp : List (Nat × Nat)) : RV → MV → Prop
 | .n k, v => v.c = false ∧ v.n = k
 | .p a b h, v => v.c = true ∧ ∃ (i : Nat) (c : MC), v.n = i ∧ cells[i]? = some c ∧ sp[h]? = some (c.home, c.ser) ∧ RRep cells sp a c.a ∧ RRep cells sp b c.b
theorem getP {α : Type} {l l' : List α} (h : l <+: l') {i : Nat} {x : α} (hi : l[i]? = some x) : l'[i]? = some x := by
 obtain ⟨t, rfl⟩ := h
 rw [List.getElem?_append_left (List.getElem?_eq_some_iff.1 hi).1]; exact hi
theorem RRep.mono {cells cells' : List MC} {sp sp' : List (Nat × Nat)} (hc : cells <+: cells') (hs : sp <+: sp') : ∀ {x : RV} {v : MV}, RRep cells sp x v → RRep cells' sp' x v
 | .n _, _, h => h
 | .p a b hh, _, h => by
  simp only [RRep] at h ⊢
  obtain ⟨h1, i, c, h2, h3, h4, h5, h6⟩ := h
  exact ⟨h1, i, c, h2, getP hc h3, getP hs h4, RRep.mono hc hs h5, RRep.mono hc hs h6⟩
theorem Ext.pre {m m' : MM} {b c : Nat} (h : Ext m m' b c) : m.cells <+: m'.cells := by
 obtain ⟨l, hl⟩ := h.cells
 exact ⟨l, hl.symm⟩
theorem RRep.fits {cells : List MC} {sp : List (Nat × Nat)} : ∀ {x : RV} {T : Ty} {v : MV}, RRep cells sp x v → x.has T → Fits cells T v
 | .n k, .n, v, h, ht => by simp only [RRep] at h; simp only [RV.has] at ht; simp only [Fits]; exact ⟨h.1, by omega, by omega⟩
 | .p a b hh, .p _ A B, v, h, ht => by
  simp only [RRep] at h
  simp only [RV.has] at ht
  obtain ⟨hc, i, c, hv, hi, _, ha, hb⟩ := h
  simp only [Fits]
  exact Or.inr ⟨hc, i, c, hv, hi, ha.fits ht.1, hb.fits ht.2⟩
 | .n _, .p _ _ _, _, _, ht => by simp [RV.has] at ht
 | .p _ _ _, .n, _, _, ht => by simp [RV.has] at ht
def tideF : Int × Int → List Int → Int × Int
 | p, [] => p
 | p, x :: r => tideF (p.1 + x, if p.2 < p.1 + x then p.1 + x else p.2) r
theorem tideF_snoc : ∀ (t : List Int) (p : Int × Int) (x : Int), tideF p (t ++ [x]) = ((tideF p t).1 + x, if (tideF p t).2 < (tideF p t).1 + x then (tideF p t).1 + x else (tideF p t).2)
 | [], p, x => rfl
 | y :: t, p, x => by simp only [List.cons_append, tideF]; exact tideF_snoc t _ x
theorem tideF_le : ∀ (t : List Int) (p : Int × Int), p.1 ≤ p.2 → (tideF p t).1 ≤ (tideF p t).2
 | [], p, h => h
 | y :: t, p, h => by
  simp only [tideF]
  refine tideF_le t _ ?_
  simp only
  split <;> omega
structure RSm (fuel : Nat) (sp : List (Nat × Nat)) (st : RS) (m : MM) : Prop where
 e : st.e = 0
 f : m.fault = 0
 s : m.steps = st.steps
 le : st.steps ≤ fuel
 c : m.cells.length = st.cells
 n : sp.length = st.ops.length
 r0 : ∃ c, m.regs[0]? = some ⟨-1, 0, c⟩
 rl : m.regs.length = st.opn.length + 1
 r : ∀ (j h : Nat), st.opn[j]? = some h → ∃ o s, st.ops[h]? = some o ∧ o.ended = false ∧ sp[h]? = some (j + 1, s) ∧ m.regs[j + 1]? = some ⟨o.reg, s, o.cells⟩
 w : ∀ h ∈ st.whl, ∃ o, st.ops[h]? = some o ∧ o.ended = false ∧ sp[h]? = some (0, 0)
 al : ∀ (h : Nat) (o : RO), st.ops[h]? = some o → o.ended = false → (∃ j : Nat, st.opn[j]? = some h) ∨ h ∈ st.whl
 dd : ∀ (h : Nat) (o : RO) (x : Nat × Nat), st.ops[h]? = some o → o.ended = true → sp[h]? = some x → ∀ (q : Nat) (r : MR), m.regs[q]? = some r → r.ser ≠ x.2
 rd : ∀ (q q' : Nat) (r r' : MR), m.regs[q]? = some r → m.regs[q']? = some r' → r.ser = r'.ser → q = q'
 ro : ∀ (q : Nat) (r : MR), m.regs[q]? = some r → r.ser < m.opened
 so : ∀ (h : Nat) (x : Nat × Nat), sp[h]? = some x → x.2 < m.opened
 l : m.live = (tideF (0, 0) st.tide).1
 mo : m.most = (tideF (0, 0) st.tide).2
theorem RSm.name {fuel : Nat} {sp : List (Nat × Nat)} {st : RS} {m : MM} (h : RSm fuel sp st m) (i : Int) (v : MV) : RSm fuel sp st (m.name i v) := by
 unfold MM.name; split
 ·exact ⟨h.e, h.f, h.s, h.le, h.c, h.n, h.r0, h.rl, h.r, h.w, h.al, h.dd, h.rd, h.ro, h.so, h.l, h.mo⟩
 ·exact h
theorem live_placed {fuel : Nat} {sp : List (Nat × Nat)} {st : RS} {m : MM} (hs : RSm fuel sp st m) {h : Nat} {c : MC} (hsp : sp[h]? = some (c.home, c.ser)) : ∃ o, st.ops[h]? = some o ∧ m.isLive c = !o.ended := by
 have hl : h < st.ops.length := by rw [← hs.n]; exact (List.getElem?_eq_some_iff.1 hsp).1
 refine ⟨st.ops[h], List.getElem?_eq_getElem hl, ?_⟩
 have ho := List.getElem?_eq_getElem hl
 generalize st.ops[h] = o at ho ⊢
 cases hen : o.ended with
 | false =>
  unfold MM.isLive
  rcases hs.al h o ho hen with ⟨j, hj⟩ | hw
  ·obtain ⟨o', s, _, _, e3, e4⟩ := hs.r j h hj
   rw [hsp] at e3
   simp only [Option.some.injEq, Prod.mk.injEq] at e3
   rw [e3.1, e4, e3.2]; simp
  ·obtain ⟨o', _, _, e3⟩ := hs.w h hw
   rw [hsp] at e3
   simp only [Option.some.injEq, Prod.mk.injEq] at e3
   obtain ⟨c', hc'⟩ := hs.r0
   rw [e3.1, hc', e3.2]; simp
 | true =>
  unfold MM.isLive
  cases hq : m.regs[c.home]? with
  | none => simp
  | some r =>
   have := hs.dd h o _ ho hen hsp c.home r hq
   simp only [Bool.not_true, beq_eq_false_iff_ne]
   exact this
theorem use_placed {fuel : Nat} {sp : List (Nat × Nat)} {st : RS} {m : MM} {a b : RV} {h : Nat} {v : MV} (hs : RSm fuel sp st m) (hr : RRep m.cells sp (.p a b h) v) :
  RRep m.cells sp a (m.use v).1.a ∧ RRep m.cells sp b (m.use v).1.b ∧ ((st.used (.p a b h) = st ∧ (m.use v).2 = m) ∨ ((st.used (.p a b h)).e = 13 ∧ (m.use v).2.fault = 13)) := by
 simp only [RRep] at hr
 obtain ⟨hc, i, c, hv, hi, hsp, ha, hb⟩ := hr
 have hil := (List.getElem?_eq_some_iff.1 hi).1
 have e2 : m.cells.getD v.n.toNat c0 = c := by rw [hv, Int.toNat_natCast, List.getD_eq_getElem?_getD, hi]; rfl
 have e : m.use v = (c, if m.isLive c = true then m else m.stop 13) := by
  unfold MM.use
  rw [if_neg (by rw [hc, hv]; simp; omega), e2]
 obtain ⟨o, ho, hlv⟩ := live_placed hs hsp
 rw [e]
 refine ⟨ha, hb, ?_⟩
 cases hen : o.ended with
 | false =>
  refine Or.inl ⟨?_, ?_⟩
  ·unfold RS.used; simp only; rw [if_neg (by rw [ho]; simp [hen])]
  ·simp only; rw [if_pos (by rw [hlv, hen]; rfl)]
 | true =>
  refine Or.inr ⟨?_, ?_⟩
  ·unfold RS.used; simp only; rw [if_pos ⟨hs.e, by rw [ho]; simp [hen]⟩]
  ·simp only; rw [if_neg (by rw [hlv, hen]; decide)]; unfold MM.stop; rw [if_pos hs.f]
theorem revfind_up {l : List Nat} {p : Nat → Bool} {j : Nat} (hj : j < l.length) : (l.take (j + 1)).reverse.find? p = if p l[j] then some l[j] else (l.take j).reverse.find? p := by
 rw [List.take_succ_eq_append_getElem hj, List.reverse_append, List.reverse_singleton, List.singleton_append, List.find?_cons]
 cases p l[j] <;> rfl
theorem home_find {fuel : Nat} {sp : List (Nat × Nat)} {st : RS} {m : MM} (hs : RSm fuel sp st m) (rg : Int) : ∀ n, n ≤ st.opn.length → ((st.opn.take n).reverse.find? (st.isR rg) = none ∧ homeF m.regs rg n = 0) ∨ ∃ j hh, st.opn[j]? = some hh ∧ (st.opn.take n).reverse.find? (st.isR rg) = some hh ∧ homeF m.regs rg n = j + 1
 | 0, _ => Or.inl ⟨rfl, rfl⟩
 | n + 1, hn => by
  have hlt : n < st.opn.length := by omega
  have hat := List.getElem?_eq_getElem hlt
  rw [revfind_up hlt]
  generalize st.opn[n] = hh at hat ⊢
  obtain ⟨o, s, e1, _, _, e4⟩ := hs.r n hh hat
  have hr : st.isR rg hh = (some o.reg == some rg) := by unfold RS.isR; rw [e1]; rfl
  unfold homeF
  rw [e4, hr]
  by_cases hq : o.reg = rg
  ·rw [if_pos (by simp [hq]), if_pos (by simp [hq])]
   exact Or.inr ⟨n, hh, hat, rfl, rfl⟩
  ·rw [if_neg (by simp [hq]), if_neg (by simp [hq])]
   exact home_find hs rg n (by omega)
theorem where_placed {fuel : Nat} {sp : List (Nat × Nat)} {st : RS} {m : MM} (hs : RSm fuel sp st m) (rg : Int) :
  ∃ sp', sp <+: sp' ∧ RSm fuel sp' (st.where_ rg).2 m ∧ ((∃ j, (st.where_ rg).2.opn[j]? = some (st.where_ rg).1 ∧ m.home rg = j + 1) ∨ ((st.where_ rg).1 ∈ (st.where_ rg).2.whl ∧ m.home rg = 0)) := by
 have hh : m.home rg = homeF m.regs rg st.opn.length := by unfold MM.home; rw [hs.rl]; rfl
 have hf := home_find hs rg st.opn.length (Nat.le_refl _)
 rw [List.take_length] at hf
 rw [hh]
 rcases hf with ⟨h1, h2⟩ | ⟨j, k, h1, h2, h3⟩
 ·cases hw : st.whl.find? (st.isR rg) with
  | some i =>
   have e : st.where_ rg = (i, st) := by unfold RS.where_ RS.whereAt; rw [h1, hw]
   rw [e]
   exact ⟨sp, List.prefix_refl _, hs, Or.inr ⟨List.mem_of_find?_eq_some hw, h2⟩⟩
  | none =>
   have e : st.where_ rg = (st.ops.length, { st with ops := st.ops ++ [⟨rg, 0, false⟩], whl := st.whl ++ [st.ops.length] }) := by unfold RS.where_ RS.whereAt; rw [h1, hw]
   rw [e]
   have hne : ∀ {h : Nat} {o : RO}, st.ops[h]? = some o → (st.ops ++ [⟨rg, 0, false⟩])[h]? = some o := fun ho => getP (List.prefix_append _ _) ho
   have hse : ∀ {h : Nat} {o : Nat × Nat}, sp[h]? = some o → (sp ++ [(0, 0)])[h]? = some o := fun ho => getP (List.prefix_append _ _) ho
   have hnew : ∀ {h : Nat} {o : RO}, (st.ops ++ [⟨rg, 0, false⟩])[h]? = some o → st.ops[h]? = some o ∨ (h = st.ops.length ∧ o = ⟨rg, 0, false⟩) := by
    intro h o ho
    by_cases hl : h < st.ops.length
    ·rw [List.getElem?_append_left hl] at ho; exact Or.inl ho
    ·have : h = st.ops.length := by have := (List.getElem?_eq_some_iff.1 ho).1; simp at this; omega
     subst this
     simp at ho
     exact Or.inr ⟨rfl, ho.symm⟩
   have hz : 0 < m.opened := by
    obtain ⟨c, hc⟩ := hs.r0
    exact hs.ro 0 _ hc
   refine ⟨sp ++ [(0, 0)], List.prefix_append _ _, ⟨hs.e, hs.f, hs.s, hs.le, hs.c, by simp [hs.n], hs.r0, hs.rl, ?_, ?_, ?_, ?_, hs.rd, hs.ro, ?_, hs.l, hs.mo⟩, Or.inr ⟨by simp, h2⟩⟩
   ·intro j h hj
    obtain ⟨o, s, e1, e2, e3, e4⟩ := hs.r j h hj
    exact ⟨o, s, hne e1, e2, hse e3, e4⟩
   ·intro h hm
    simp only [List.mem_append, List.mem_singleton] at hm
    rcases hm with hm | rfl
    ·obtain ⟨o, e1, e2, e3⟩ := hs.w h hm
     exact ⟨o, hne e1, e2, hse e3⟩
    ·exact ⟨⟨rg, 0, false⟩, by simp, rfl, by rw [← hs.n]; simp⟩
   ·intro h o ho hen
    rcases hnew ho with ho | ⟨rfl, rfl⟩
    ·rcases hs.al h o ho hen with h1 | h1
     ·exact Or.inl h1
     ·exact Or.inr (by simp [h1])
    ·exact Or.inr (by simp)
   ·intro h o x ho hen hx q r hq
    rcases hnew ho with ho | ⟨rfl, rfl⟩
    ·have hl : h < sp.length := by rw [hs.n]; exact (List.getElem?_eq_some_iff.1 ho).1
     rw [List.getElem?_append_left hl] at hx
     exact hs.dd h o x ho hen hx q r hq
    ·simp at hen
   ·intro h x hx
    by_cases hl : h < sp.length
    ·rw [List.getElem?_append_left hl] at hx; exact hs.so h x hx
    ·have : h = sp.length := by have := (List.getElem?_eq_some_iff.1 hx).1; simp at this; omega
     subst this
     simp at hx
     subst hx
     exact hz
 ·have e : st.where_ rg = (k, st) := by unfold RS.where_ RS.whereAt; rw [h2]
  rw [e]
  exact ⟨sp, List.prefix_refl _, hs, Or.inl ⟨j, h1, h3⟩⟩
theorem one_placed {fuel : Nat} {sp : List (Nat × Nat)} {st : RS} {m : MM} (hs : RSm fuel sp st m) {i : Nat} {rg : Int} (hi : (∃ j, st.opn[j]? = some i ∧ m.home rg = j + 1) ∨ (i ∈ st.whl ∧ m.home rg = 0)) {a b : RV} {v u : MV} (ha : RRep m.cells sp a v) (hb : RRep m.cells sp b u) :
  RSm fuel sp (st.one i) (m.newCell rg v u).2 ∧ RRep (m.newCell rg v u).2.cells sp (.p a b i) (m.newCell rg v u).1 := by
 obtain ⟨r, hr, hspi, hcell⟩ : ∃ r, m.regs[m.home rg]? = some r ∧ sp[i]? = some (m.home rg, r.ser) ∧ ∀ o, st.ops[i]? = some o → (∃ j, st.opn[j]? = some i ∧ m.home rg = j + 1) → r = ⟨o.reg, r.ser, o.cells⟩ := by
  rcases hi with ⟨j, hj, hh⟩ | ⟨hw, hh⟩
  ·obtain ⟨o, s, e1, e2, e3, e4⟩ := hs.r j i hj
   rw [hh]
   exact ⟨_, e4, e3, fun o' ho' _ => by rw [e1] at ho'; cases ho'; rfl⟩
  ·obtain ⟨o, e1, e2, e3⟩ := hs.w i hw
   obtain ⟨c, hc⟩ := hs.r0
   rw [hh]
   exact ⟨_, hc, e3, fun o' _ ⟨j, _, hj⟩ => by omega⟩
 have ef : m.newCell rg v u = (⟨true, m.cells.length⟩, { m with regs := m.regs.set (m.home rg) { r with cells := r.cells + 1 }, cells := m.cells ++ [⟨v, u, m.home rg, r.ser⟩], live := m.live + 1, most := if m.most < m.live + 1 then m.live + 1 else m.most }) := by unfold MM.newCell; rw [hr]
 rw [ef]
 have hlt := (List.getElem?_eq_some_iff.1 hr).1
 generalize m.home rg = p at *
 have hreg : ∀ {q : Nat} {r' : MR}, (m.regs.set p { r with cells := r.cells + 1 })[q]? = some r' → ∃ r0, m.regs[q]? = some r0 ∧ r0.ser = r'.ser := by
  intro q r' hq
  by_cases e : p = q
  ·subst e
   rw [List.getElem?_set_self hlt] at hq
   cases hq
   exact ⟨r, hr, rfl⟩
  ·rw [List.getElem?_set_ne e] at hq
   exact ⟨r', hq, rfl⟩
 have hops : ∀ {h : Nat} {o : RO}, (st.ops.modify i (fun o => { o with cells := o.cells + 1 }))[h]? = some o → ∃ o', st.ops[h]? = some o' ∧ o'.ended = o.ended := by
  intro h o ho
  rw [List.getElem?_modify] at ho
  cases hq : st.ops[h]? with
  | none => rw [hq] at ho; simp at ho
  | some o' =>
   rw [hq] at ho
   simp only [Option.map_eq_map, Option.map_some, Option.some.injEq] at ho
   exact ⟨o', rfl, by rw [← ho]; split <;> rfl⟩
 have hops' : ∀ {h : Nat} {o : RO}, st.ops[h]? = some o → (st.ops.modify i (fun o => { o with cells := o.cells + 1 }))[h]? = some (if i = h then { o with cells := o.cells + 1 } else o) := by
  intro h o ho
  rw [List.getElem?_modify, ho]; rfl
 refine ⟨⟨hs.e, hs.f, hs.s, hs.le, by simp [RS.one, hs.c], by simp [RS.one, hs.n], ?_, by simp [RS.one, hs.rl], ?_, ?_, ?_, ?_, ?_, ?_, hs.so, ?_, ?_⟩, ?_⟩
 ·obtain ⟨c, hc⟩ := hs.r0
  by_cases e : p = 0
  ·subst e
   rw [hr] at hc
   cases hc
   exact ⟨c + 1, by simp only; rw [List.getElem?_set_self hlt]⟩
  ·exact ⟨c, by simp only; rw [List.getElem?_set_ne e]; exact hc⟩
 ·intro j h hj
  obtain ⟨o, s, e1, e2, e3, e4⟩ := hs.r j h hj
  simp only [RS.one]
  refine ⟨_, s, hops' e1, by split <;> exact e2, e3, ?_⟩
  by_cases e : i = h
  ·subst e
   have hp : p = j + 1 ∧ r.ser = s := by rw [hspi] at e3; simp only [Option.some.injEq, Prod.mk.injEq] at e3; exact e3
   rw [if_pos rfl, ← hp.1, List.getElem?_set_self hlt]
   rw [← hp.1, hr] at e4
   simp only [Option.some.injEq] at e4
   rw [e4]
  ·rw [if_neg e]
   have hpn : p ≠ j + 1 := by
    intro hpe
    rcases hi with ⟨j', hj', hh⟩ | ⟨_, hh⟩
    ·have : j' = j := by omega
     subst this
     have hj2 : st.opn[j']? = some h := hj
     rw [hj'] at hj2
     cases hj2
     exact e rfl
    ·omega
   rw [List.getElem?_set_ne hpn]; exact e4
 ·intro h hw
  obtain ⟨o, e1, e2, e3⟩ := hs.w h hw
  exact ⟨_, hops' e1, by split <;> exact e2, e3⟩
 ·intro h o ho hen
  obtain ⟨o', h1, h2⟩ := hops ho
  exact hs.al h o' h1 (h2.trans hen)
 ·intro h o x ho hen hx q r' hq
  obtain ⟨o', h1, h2⟩ := hops ho
  obtain ⟨r1, h3, h4⟩ := hreg hq
  rw [← h4]
  exact hs.dd h o' x h1 (h2.trans hen) hx q r1 h3
 ·intro q q' r1 r2 h1 h2 h3
  obtain ⟨r1', a1, a2⟩ := hreg h1
  obtain ⟨r2', b1, b2⟩ := hreg h2
  exact hs.rd q q' r1' r2' a1 b1 (by rw [a2, b2]; exact h3)
 ·intro q r1 h1
  obtain ⟨r1', a1, a2⟩ := hreg h1
  rw [← a2]
  exact hs.ro q r1' a1
 ·simp only [RS.one]; rw [tideF_snoc, hs.l]
 ·simp only [RS.one]; rw [tideF_snoc, hs.l, hs.mo]
 ·simp only [RRep]
  refine ⟨trivial, m.cells.length, ⟨v, u, p, r.ser⟩, rfl, by simp, hspi, ha.mono (List.prefix_append _ _) (List.prefix_refl _), hb.mono (List.prefix_append _ _) (List.prefix_refl _)⟩
theorem pair_placed {fuel : Nat} {sp : List (Nat × Nat)} {st : RS} {m : MM} (hs : RSm fuel sp st m) (rg : Int) {a b : RV} {v u : MV} (ha : RRep m.cells sp a v) (hb : RRep m.cells sp b u) :
  ∃ sp', sp <+: sp' ∧ RSm fuel sp' (rPair rg a b st).2 (m.newCell rg v u).2 ∧ RRep (m.newCell rg v u).2.cells sp' (rPair rg a b st).1 (m.newCell rg v u).1 := by
 obtain ⟨sp', h1, h2, h3⟩ := where_placed hs rg
 have := one_placed h2 h3 (ha.mono (List.prefix_refl _) h1) (hb.mono (List.prefix_refl _) h1)
 exact ⟨sp', h1, this⟩
theorem opened_placed {fuel : Nat} {sp : List (Nat × Nat)} {st : RS} {m : MM} (hs : RSm fuel sp st m) (rg : Int) : RSm fuel (sp ++ [(st.opn.length + 1, m.opened)]) (st.opened rg) (m.opn rg) := by
 have hne : ∀ {h : Nat} {o : RO}, st.ops[h]? = some o → (st.ops ++ [⟨rg, 0, false⟩])[h]? = some o := fun ho => getP (List.prefix_append _ _) ho
 have hse : ∀ {h : Nat} {o : Nat × Nat}, sp[h]? = some o → (sp ++ [(st.opn.length + 1, m.opened)])[h]? = some o := fun ho => getP (List.prefix_append _ _) ho
 have hre : ∀ {h : Nat} {o : MR}, m.regs[h]? = some o → (m.regs ++ [⟨rg, m.opened, 0⟩])[h]? = some o := fun ho => getP (List.prefix_append _ _) ho
 have hnew : ∀ {h : Nat} {o : RO}, (st.ops ++ [⟨rg, 0, false⟩])[h]? = some o → st.ops[h]? = some o ∨ (h = st.ops.length ∧ o = ⟨rg, 0, false⟩) := by
  intro h o ho
  by_cases hl : h < st.ops.length
  ·rw [List.getElem?_append_left hl] at ho; exact Or.inl ho
  ·have : h = st.ops.length := by have := (List.getElem?_eq_some_iff.1 ho).1; simp at this; omega
   subst this
   simp at ho
   exact Or.inr ⟨rfl, ho.symm⟩
 have hrn : ∀ {q : Nat} {r : MR}, (m.regs ++ [⟨rg, m.opened, 0⟩])[q]? = some r → m.regs[q]? = some r ∨ (q = m.regs.length ∧ r = ⟨rg, m.opened, 0⟩) := by
  intro h o ho
  by_cases hl : h < m.regs.length
  ·rw [List.getElem?_append_left hl] at ho; exact Or.inl ho
  ·have : h = m.regs.length := by have := (List.getElem?_eq_some_iff.1 ho).1; simp at this; omega
   subst this
   simp at ho
   exact Or.inr ⟨rfl, ho.symm⟩
 refine ⟨hs.e, hs.f, hs.s, hs.le, hs.c, by simp [RS.opened, hs.n], ?_, by simp [RS.opened, MM.opn, hs.rl], ?_, ?_, ?_, ?_, ?_, ?_, ?_, hs.l, hs.mo⟩
 ·obtain ⟨c, hc⟩ := hs.r0
  exact ⟨c, hre hc⟩
 ·intro j h hj
  simp only [RS.opened] at hj
  by_cases hl : j < st.opn.length
  ·rw [List.getElem?_append_left hl] at hj
   obtain ⟨o, s, e1, e2, e3, e4⟩ := hs.r j h hj
   exact ⟨o, s, hne e1, e2, hse e3, hre e4⟩
  ·have : j = st.opn.length := by have := (List.getElem?_eq_some_iff.1 hj).1; simp at this; omega
   subst this
   simp at hj
   subst hj
   refine ⟨⟨rg, 0, false⟩, m.opened, by simp [RS.opened], rfl, by rw [← hs.n]; simp, ?_⟩
   simp only [MM.opn]
   rw [← hs.rl]; simp
 ·intro h hw
  obtain ⟨o, e1, e2, e3⟩ := hs.w h hw
  exact ⟨o, hne e1, e2, hse e3⟩
 ·intro h o ho hen
  rcases hnew ho with ho | ⟨rfl, rfl⟩
  ·rcases hs.al h o ho hen with ⟨j, hj⟩ | hw
   ·exact Or.inl ⟨j, getP (List.prefix_append _ _) hj⟩
   ·exact Or.inr hw
  ·exact Or.inl ⟨st.opn.length, by simp [RS.opened]⟩
 ·intro h o x ho hen hx q r hq
  rcases hnew ho with ho | ⟨rfl, rfl⟩
  ·have hl : h < sp.length := by rw [hs.n]; exact (List.getElem?_eq_some_iff.1 ho).1
   rw [List.getElem?_append_left hl] at hx
   rcases hrn hq with hq | ⟨_, rfl⟩
   ·exact hs.dd h o x ho hen hx q r hq
   ·have := hs.so h x hx
    simp only
    omega
  ·simp at hen
 ·intro q q' r r' h1 h2 h3
  rcases hrn h1 with h1 | ⟨e1, rfl⟩
  ·rcases hrn h2 with h2 | ⟨_, rfl⟩
   ·exact hs.rd q q' r r' h1 h2 h3
   ·have := hs.ro q r h1
    simp only at h3
    omega
  ·rcases hrn h2 with h2 | ⟨e2, rfl⟩
   ·have := hs.ro q' r' h2
    simp only at h3
    omega
   ·omega
 ·intro q r h1
  simp only [MM.opn]
  rcases hrn h1 with h1 | ⟨_, rfl⟩
  ·have := hs.ro q r h1; omega
  ·simp
 ·intro h x hx
  simp only [MM.opn]
  by_cases hl : h < sp.length
  ·rw [List.getElem?_append_left hl] at hx
   have := hs.so h x hx; omega
  ·have : h = sp.length := by have := (List.getElem?_eq_some_iff.1 hx).1; simp at this; omega
   subst this
   simp at hx
   subst hx
   simp
theorem shut_placed {fuel : Nat} {sp : List (Nat × Nat)} {st : RS} {m : MM} {l : List Nat} {i : Nat} (hs : RSm fuel sp st m) (hl : st.opn = l ++ [i]) : RSm fuel sp (st.shut i) m.fin := by
 have hat : st.opn[l.length]? = some i := by rw [hl]; simp
 obtain ⟨o, s, e1, e2, e3, e4⟩ := hs.r l.length i hat
 have hrl : m.regs.length = l.length + 2 := by rw [hs.rl, hl]; simp
 have hlast : m.regs.getLast? = some ⟨o.reg, s, o.cells⟩ := by
  rw [List.getLast?_eq_getElem?, hrl]; exact e4
 have ef : m.fin = { m with live := m.live - o.cells, regs := m.regs.dropLast } := by unfold MM.fin; rw [hlast]
 rw [ef]
 have hreg : ∀ {q : Nat} {r : MR}, m.regs.dropLast[q]? = some r → q < l.length + 1 ∧ m.regs[q]? = some r := by
  intro q r hq
  have h1 := (List.getElem?_eq_some_iff.1 hq).1
  rw [List.length_dropLast] at h1
  have h2 : q < l.length + 1 := by omega
  rw [List.getElem?_dropLast, if_pos (by omega)] at hq
  exact ⟨h2, hq⟩
 have hreg' : ∀ {q : Nat} {r : MR}, q < l.length + 1 → m.regs[q]? = some r → m.regs.dropLast[q]? = some r := by
  intro q r h1 hq
  rw [List.getElem?_dropLast, if_pos (by omega)]; exact hq
 have hops : ∀ {h : Nat} {o : RO}, (st.ops.modify i (fun o => { o with ended := true }))[h]? = some o → ∃ o', st.ops[h]? = some o' ∧ o = if i = h then { o' with ended := true } else o' := by
  intro h o ho
  rw [List.getElem?_modify] at ho
  cases hq : st.ops[h]? with
  | none => rw [hq] at ho; simp at ho
  | some o' =>
   rw [hq] at ho
   simp only [Option.map_eq_map, Option.map_some, Option.some.injEq] at ho
   exact ⟨o', rfl, ho.symm⟩
 have hops' : ∀ {h : Nat} {o : RO}, i ≠ h → st.ops[h]? = some o → (st.ops.modify i (fun o => { o with ended := true }))[h]? = some o := by
  intro h o hne ho
  rw [List.getElem?_modify, ho]; simp [hne]
 refine ⟨hs.e, hs.f, hs.s, hs.le, hs.c, by simp [RS.shut, hs.n], ?_, ?_, ?_, ?_, ?_, ?_, ?_, ?_, hs.so, ?_, ?_⟩
 ·obtain ⟨c, hc⟩ := hs.r0
  exact ⟨c, hreg' (by omega) hc⟩
 ·simp only [RS.shut, List.length_dropLast]; rw [hl]; simp; omega
 ·intro j h hj
  simp only [RS.shut] at hj ⊢
  rw [hl, List.dropLast_concat] at hj
  have hjl := (List.getElem?_eq_some_iff.1 hj).1
  have hj' : st.opn[j]? = some h := by rw [hl, List.getElem?_append_left hjl]; exact hj
  obtain ⟨o', s', a1, a2, a3, a4⟩ := hs.r j h hj'
  have hne : i ≠ h := by
   intro e
   subst e
   rw [e3] at a3
   simp only [Option.some.injEq, Prod.mk.injEq] at a3
   omega
  exact ⟨o', s', hops' hne a1, a2, a3, hreg' (by omega) a4⟩
 ·intro h hw
  obtain ⟨o', a1, a2, a3⟩ := hs.w h hw
  have hne : i ≠ h := by
   intro e
   subst e
   rw [e3] at a3
   simp at a3
  exact ⟨o', hops' hne a1, a2, a3⟩
 ·intro h o' ho hen
  obtain ⟨o2, a1, a2⟩ := hops ho
  by_cases e : i = h
  ·rw [if_pos e] at a2; rw [a2] at hen; simp at hen
  ·rw [if_neg e] at a2
   subst a2
   rcases hs.al h o' a1 hen with ⟨j, hj⟩ | hw
   ·refine Or.inl ⟨j, ?_⟩
    simp only [RS.shut]
    rw [hl] at hj ⊢
    rw [List.dropLast_concat]
    by_cases hjl : j < l.length
    ·rw [List.getElem?_append_left hjl] at hj; exact hj
    ·have : j = l.length := by have := (List.getElem?_eq_some_iff.1 hj).1; simp at this; omega
     subst this
     simp at hj
     exact absurd hj e
   ·exact Or.inr hw
 ·intro h o' x ho hen hx q r hq
  obtain ⟨hq1, hq2⟩ := hreg hq
  obtain ⟨o2, a1, a2⟩ := hops ho
  by_cases e : i = h
  ·subst e
   rw [e3] at hx
   cases hx
   intro hse
   have := hs.rd q (l.length + 1) r _ hq2 e4 hse
   omega
  ·rw [if_neg e] at a2
   subst a2
   exact hs.dd h o' x a1 hen hx q r hq2
 ·intro q q' r r' h1 h2 h3
  exact hs.rd q q' r r' (hreg h1).2 (hreg h2).2 h3
 ·intro q r h1
  exact hs.ro q r (hreg h1).2
 ·simp only [RS.shut]; rw [tideF_snoc, hs.l, e1]; simp only [Option.map_some, Option.getD_some]; omega
 ·have := tideF_le st.tide (0, 0) (by simp)
  simp only [RS.shut]; rw [tideF_snoc, hs.mo, e1]; simp only [Option.map_some, Option.getD_some]
  rw [if_neg (by omega)]
end Go.Proofs.YtpicaknklgccoaaGreatDoor
namespace Go.Proofs.YtpicaknklgccoaaGreatDoor
open Go.RowKit
structure Bk (pb k : Nat) (w : World) (sv nv ov : Value) (X : Obj) : Prop where
 b : w.heap[k]? = some X
 ne : k ≠ pb
 s : sv.ownBlock ≠ some k
 n : nv.ownBlock ≠ some k
 o : ov.ownBlock ≠ some k
theorem Bk.keep {pb k : Nat} {w w' : World} {sv nv ov sv' nv' ov' : Value} {X : Obj} (h : Bk pb k w sv nv ov X) (hf : PFr pb pb w w' sv nv ov sv' nv' ov') : Bk pb k w' sv' nv' ov' X := by
 have hk := blk_lt h.b
 refine ⟨by rw [hf.blk k hk h.ne h.ne h.s h.n h.o]; exact h.b, h.ne, ?_, ?_, ?_⟩
 ·intro e; rcases hf.s k e with e | e
  ·exact h.s e
  ·omega
 ·intro e; rcases hf.n k e with e | e
  ·exact h.n e
  ·omega
 ·intro e; rcases hf.o k e with e | e
  ·exact h.o e
  ·omega
theorem Bk.new {s : ByteArray} {placed : Bool} {pb : Nat} {w : World} {sv nv ov : Value} {st : PS} (h : PIn s placed pb w sv nv ov st) (X : Obj) : Bk pb w.heap.size (w.alloc X) sv nv ov X := by
 obtain ⟨l1, l2, l3, l4⟩ := h.slt
 exact ⟨blk_new _ _, by omega, fun e => by have := l1 _ e; omega, fun e => by have := l2 _ e; omega, fun e => by have := l3 _ e; omega⟩
theorem Bk.alloc {pb k : Nat} {w : World} {sv nv ov : Value} {X : Obj} (h : Bk pb k w sv nv ov X) (Y : Obj) : Bk pb k (w.alloc Y) sv nv ov X := ⟨blk_alloc _ h.b, h.ne, h.s, h.n, h.o⟩
theorem PIn.alloc {s : ByteArray} {placed : Bool} {pb : Nat} {w : World} {sv nv ov : Value} {st : PS} (h : PIn s placed pb w sv nv ov st) (Y : Obj) : PIn s placed pb (w.alloc Y) sv nv ov st := h.below ((Below.refl _ w).alloc (Nat.le_refl _) Y)
theorem PFr.alloc {pb nb : Nat} {w w' : World} {sv nv ov sv' nv' ov' : Value} (h : PFr pb nb w w' sv nv ov sv' nv' ov') (Y : Obj) : PFr pb nb w (w'.alloc Y) sv nv ov sv' nv' ov' := h.trans (PFr.below pb nb sv' nv' ov' ((Below.refl _ w').alloc (Nat.le_refl _) Y))
theorem Bk.set {s : ByteArray} {placed : Bool} {pb nb : Nat} {w : World} {sv nv ov : Value} {st : PS} {cs : Array Value} {t : TypeId} (h : Bk pb nb w sv nv ov (.cells cs t (0, 0))) (hin : PIn s placed pb w sv nv ov st) (off : Nat) (v : Value) :
  PFr pb nb w (w.setCell ⟨nb, off, none⟩ v) sv nv ov sv nv ov ∧ PIn s placed pb (w.setCell ⟨nb, off, none⟩ v) sv nv ov st ∧ Bk pb nb (w.setCell ⟨nb, off, none⟩ v) sv nv ov (.cells (cs.setIfInBounds off v) t (0, 0)) := by
 have kp : ∀ k, k ≠ nb → (w.setCell ⟨nb, off, none⟩ v).heap[k]? = w.heap[k]? := fun k hk => blk_other _ _ (by simpa using hk)
 obtain ⟨fr, y1, y2, y3⟩ := hin.y
 refine ⟨⟨rfl, rfl, rfl, by simp only [World.setCell, Array.size_modify]; omega, fun k _ _ hn _ _ _ => kp k hn, fun _ h => Or.inl h, fun _ h => Or.inl h, fun _ h => Or.inl h⟩, ?_, ⟨blk_set h.b off v, h.ne, h.s, h.n, h.o⟩⟩
 exact PIn.move hin st.l st.fl (fun k hk => kp k (fun e => h.s (by rw [← e]; exact hk))) (fun k hk => kp k (fun e => h.n (by rw [← e]; exact hk))) (fun k hk => kp k (fun e => h.o (by rw [← e]; exact hk))) ⟨fr, y1, y2, by rw [kp pb (fun e => h.ne e.symm)]; exact y3⟩
def nrC (n : NR) : Array Value := #[.int .i64 n.form, .int .i64 n.at_, .int .i64 n.beh, .int .i64 n.num, .string (bs n.word), .int .i64 n.region, .int .i64 n.source, .int .i64 n.p0, .int .i64 n.p1, .int .i64 n.p2]
abbrev nrO (n : NR) : Obj := .cells (nrC n) 160 (0, 0)
def tnC (T : TN) : Array Value := #[.int .i64 T.kind, .int .i64 T.at_, .int .i64 T.beh, .string (bs T.word), .int .i64 T.num]
abbrev tnO (T : TN) : Obj := .cells (tnC T) 208 (0, 0)
def FOk (s : ByteArray) (placed : Bool) (pb : Nat) (fn : Nat) (more : Array Value) (f : NR → PS → NR × PS) (m : Nat) : Prop :=
 ∀ (nb : Nat) (w : World) (sv nv ov : Value) (st : PS) (n : NR), PIn s placed pb w sv nv ov st → Bk pb nb w sv nv ov (nrO n) → st.l.length ≤ m → Bd1 st → Calls Tryz.prog fn (#[ptr pb, ptr nb] ++ more) w fun v w' => v = .returned (.tuple #[]) ∧
  ∃ sv' nv' ov', PFr pb nb w w' sv nv ov sv' nv' ov' ∧ PIn s placed pb w' sv' nv' ov' (f n st).2 ∧ Bk pb nb w' sv' nv' ov' (nrO (f n st).1)
set_option maxRecDepth 100000 in
set_option maxHeartbeats 4000000 in
theorem fillRegion_any (s : ByteArray) (placed : Bool) (pb m : Nat) (hs : s.size ≤ 9000) : FOk s placed pb 200 #[] (fun n st => pRegion s.size n st) m := by
 intro nb w sv nv ov st n h hb _ _
 have hex := expect_any s placed pb w sv nv ov st 6 hs h
 unfold pRegion
 obtain ⟨T, hT⟩ : ∃ T, T = tk1 s.size st.l := ⟨_, rfl⟩
 rw [← hT] at hex
 have HT : Hid _ := hT
 clear hT
 unfold tnVal ptr at hex
 simp only [Array.append_empty]
 show Calls _ _ #[Value.pointer (some ⟨pb, 0, none⟩), Value.pointer (some ⟨nb, 0, none⟩)] w _
 have HB : Hid _ := hb
 clear h hb
 go_enter Tryz.func200, Tryz.ntmps200
 go_wp2_with fail
 refine hex.mono ?_
 rintro _ w1 ⟨rfl, hfr, hin⟩
 have hb1 := HB.out.keep hfr
 have c5 : w1.cell? ⟨nb, 5, none⟩ = some (.int .i64 n.region) := by rw [blk_cell hb1.b]; rfl
 have f5 : w1.frozen? ⟨nb, 5, none⟩ = false := blk_free hb1.b 5
 have hne := blk_lt hb1.b
 obtain ⟨s1, s2, s3⟩ := hb1.set hin 5 (.int .i64 T.num)
 have HF : Hid (PFr pb nb w _ sv nv ov sv nv ov) := (hfr.nb (nb := nb)).trans s1
 have H2 : Hid _ := s2
 have H3 : Hid _ := s3
 clear s1 s2 s3 hfr hin hb1 hex
 go_wp2
 refine bodyPost_end (v := .tuple #[]) (by simp [results, Tryz.results200, go_sem]) rfl ⟨rfl, _, _, _, HF.out.alloc _, H2.out.alloc _, by rw [← HT.out]; exact H3.out.alloc _⟩
def pRows (pE : PS → Int × PS) (n : NR) (st : PS) : Nat → NR × PS
 | 0 => (n, st)
 | 1 => pRow1 pE n st
 | 2 => pRow2 pE n st
 | _ => pRow3 pE n st
set_option maxRecDepth 100000 in
set_option maxHeartbeats 4000000 in
theorem fillRow_any (s : ByteArray) (placed : Bool) (pb : Nat) (pE : PS → Int × PS) (m c : Nat) (hc : c ≤ 3) (hE : EOk s placed pb pE m) (hG : GrAll pE m) : FOk s placed pb 201 #[.int .i64 c] (fun n st => pRows pE n st c) m := by
 intro nb w sv nv ov st n h hb hm hbd
 have hg1 := gs_row1 hG n st hm
 have hg2 := gs_row2 hG n st hm
 have hgl : ∀ k, k ≤ 2 → (pRows pE n st k).2.l.length ≤ m ∧ Bd0 (pRows pE n st k).2 := by
  intro k hk
  match k, hk with
  | 0, _ => exact ⟨hm, hbd.to (Gs.refl st) (by omega)⟩
  | 1, _ => exact ⟨Nat.le_trans hg1.l hm, hbd.to hg1 (by omega)⟩
  | 2, _ => exact ⟨Nat.le_trans hg2.l hm, hbd.to hg2 (by omega)⟩
 have hnx : ∀ k, k < 3 → pRows pE n st (k + 1) = (if k = 0 then { (pRows pE n st k).1 with p0 := (pE (pRows pE n st k).2).1 } else if k = 1 then { (pRows pE n st k).1 with p1 := (pE (pRows pE n st k).2).1 } else { (pRows pE n st k).1 with p2 := (pE (pRows pE n st k).2).1 }, (pE (pRows pE n st k).2).2) := by
  intro k hk
  match k, hk with
  | 0, _ => rfl
  | 1, _ => rfl
  | 2, _ => rfl
 have hEx := fun w sv nv ov st h hm hb => hE w sv nv ov st h hm hb
 unfold ptr at hEx
 have HE : Hid _ := hEx
 have HGL : Hid _ := hgl
 have HNX : Hid _ := hnx
 have HB : Hid _ := hb
 have HH : Hid _ := h
 clear hg1 hg2 hgl hnx hb h hE hG hEx hbd
 show Calls _ _ #[Value.pointer (some ⟨pb, 0, none⟩), Value.pointer (some ⟨nb, 0, none⟩), .int .i64 c] w _
 go_enter Tryz.func201, Tryz.ntmps201
 go_wp2
 go_loopw [6, 7] (fun i _ wr => ∃ k : Nat, k ≤ c ∧ i = .int .i64 k ∧ ∃ sv' nv' ov', PFr pb nb w wr sv nv ov sv' nv' ov' ∧ PIn s placed pb wr sv' nv' ov' (pRows pE n st k).2 ∧ Bk pb nb wr sv' nv' ov' (nrO (pRows pE n st k).1)) (fun i _ _ => c - (intOf i).toNat)
 case atStart => exact ⟨0, by omega, rfl, sv, nv, ov, PFr.refl _ _ _ _ _ _, HH.out, HB.out⟩
 case round =>
  obtain ⟨k, hk, rfl, sv1, nv1, ov1, hfr1, hin1, hb1⟩ := hrel
  by_cases hlt : k < c
  ·have hk3 : k < 3 := by omega
   obtain ⟨hl1, hd1⟩ := HGL.out k (by omega)
   have hx := HE.out wr sv1 nv1 ov1 _ hin1 hl1 hd1
   have hnk := HNX.out k hk3
   have HFR1 : Hid _ := hfr1
   have HB1 : Hid _ := hb1
   have HNK : Hid _ := hnk
   clear hfr1 hin1 hb1 hl1 hd1 hnk
   go_wp2_with fail
   refine hx.mono ?_
   rintro _ w2 ⟨rfl, sv2, nv2, ov2, hfr2, hin2⟩
   have hb2 := HB1.out.keep hfr2
   have HF2 : Hid _ := HFR1.out.trans (hfr2.nb (nb := nb))
   have HIN2 : Hid _ := hin2
   have HB2 : Hid _ := hb2
   clear hfr2 hin2 hx HB1 HFR1
   generalize (pE (pRows pE n st k).2).1 = part at *
   obtain ⟨s1, s2, s3⟩ := HB2.out.set HIN2.out (7 + k) (.int .i64 part)
   have c7 : w2.cell? ⟨nb, 7, none⟩ = some (.int .i64 (pRows pE n st k).1.p0) := by rw [blk_cell hb2.b]; rfl
   have c8 : w2.cell? ⟨nb, 8, none⟩ = some (.int .i64 (pRows pE n st k).1.p1) := by rw [blk_cell hb2.b]; rfl
   have c9 : w2.cell? ⟨nb, 9, none⟩ = some (.int .i64 (pRows pE n st k).1.p2) := by rw [blk_cell hb2.b]; rfl
   have f7 := blk_free hb2.b 7
   have f8 := blk_free hb2.b 8
   have f9 := blk_free hb2.b 9
   have H1 : Hid _ := s1
   have H2 : Hid _ := s2
   have H3 : Hid _ := s3
   clear s1 s2 s3 hb2
   rcases (by omega : k = 0 ∨ k = 1 ∨ k = 2) with rfl | rfl | rfl
   ·go_wp2
    go_roundw
    case rel => exact ⟨1, by omega, rfl, sv2, nv2, ov2, HF2.out.trans H1.out, by rw [HNK.out]; exact H2.out, by rw [HNK.out]; exact H3.out⟩
    case measure => simp [intOf]; omega
   ·go_wp2
    go_roundw
    case rel => exact ⟨2, by omega, rfl, sv2, nv2, ov2, HF2.out.trans H1.out, by rw [HNK.out]; exact H2.out, by rw [HNK.out]; exact H3.out⟩
    case measure => simp [intOf]; omega
   ·go_wp2
    go_roundw
    case rel => exact ⟨3, by omega, rfl, sv2, nv2, ov2, HF2.out.trans H1.out, by rw [HNK.out]; exact H2.out, by rw [HNK.out]; exact H3.out⟩
    case measure => simp [intOf]; omega
  ·have hkc : k = c := by omega
   have HF1 : Hid _ := hfr1
   have HI1 : Hid _ := hin1
   have HB1 : Hid _ := hb1
   have HKC : Hid _ := hkc
   clear hfr1 hin1 hb1 hkc
   go_wp2
   refine bodyPost_end (v := .tuple #[]) (by simp [results, Tryz.results201, go_sem]) rfl ⟨rfl, _, _, _, HF1.out, ?_, ?_⟩
   ·rw [← HKC.out]; exact HI1.out
   ·rw [← HKC.out]; exact HB1.out
theorem Bk.set4 {s : ByteArray} {placed : Bool} {pb nb : Nat} {w : World} {sv nv ov : Value} {st : PS} {n : NR} (h : Bk pb nb w sv nv ov (nrO n)) (hin : PIn s placed pb w sv nv ov st) (u : List UInt8) (a b c : Int) :
  PFr pb nb w ((((w.setCell ⟨nb, 4, none⟩ (.string (bs u))).setCell ⟨nb, 7, none⟩ (.int .i64 a)).setCell ⟨nb, 8, none⟩ (.int .i64 b)).setCell ⟨nb, 9, none⟩ (.int .i64 c)) sv nv ov sv nv ov ∧
  PIn s placed pb ((((w.setCell ⟨nb, 4, none⟩ (.string (bs u))).setCell ⟨nb, 7, none⟩ (.int .i64 a)).setCell ⟨nb, 8, none⟩ (.int .i64 b)).setCell ⟨nb, 9, none⟩ (.int .i64 c)) sv nv ov st ∧
  Bk pb nb ((((w.setCell ⟨nb, 4, none⟩ (.string (bs u))).setCell ⟨nb, 7, none⟩ (.int .i64 a)).setCell ⟨nb, 8, none⟩ (.int .i64 b)).setCell ⟨nb, 9, none⟩ (.int .i64 c)) sv nv ov (nrO { n with word := u, p0 := a, p1 := b, p2 := c }) := by
 obtain ⟨a1, a2, a3⟩ := h.set hin 4 (.string (bs u))
 obtain ⟨b1, b2, b3⟩ := a3.set a2 7 (.int .i64 a)
 obtain ⟨c1, c2, c3⟩ := b3.set b2 8 (.int .i64 b)
 obtain ⟨d1, d2, d3⟩ := c3.set c2 9 (.int .i64 c)
 exact ⟨((a1.trans b1).trans c1).trans d1, d2, d3⟩
theorem nr_cells {w : World} {nb : Nat} {n : NR} (h : w.heap[nb]? = some (nrO n)) : w.cell? ⟨nb, 4, none⟩ = some (.string (bs n.word)) ∧ w.cell? ⟨nb, 7, none⟩ = some (.int .i64 n.p0) ∧ w.cell? ⟨nb, 8, none⟩ = some (.int .i64 n.p1) ∧ w.cell? ⟨nb, 9, none⟩ = some (.int .i64 n.p2) :=
 ⟨by rw [blk_cell h]; rfl, by rw [blk_cell h]; rfl, by rw [blk_cell h]; rfl, by rw [blk_cell h]; rfl⟩
set_option maxRecDepth 100000 in
set_option maxHeartbeats 4000000 in
theorem fillLet_any (s : ByteArray) (placed : Bool) (pb : Nat) (pE : PS → Int × PS) (m : Nat) (hs : s.size ≤ 9000) (hE : EOk s placed pb pE m) (hG : GrAll pE m) : FOk s placed pb 198 #[] (fun n st => pLet s.size pE n st) m := by
 intro nb w sv nv ov st n h hb hm hbd
 have hex := expect_any s placed pb w sv nv ov st 4 hs h
 have g1 := gs_expect s.size 4 st
 have g1l := g1.l
 have g2 := gs_pE hG (st.expect s.size 4) (by omega)
 have g2l := g2.l
 have hx := fun w sv nv ov h => hE w sv nv ov (st.expect s.size 4) h (by omega) (hbd.to g1 (by omega))
 have hbo := fun w sv nv ov u src h => body_any s placed pb pE m hE hG w sv nv ov (pE (st.expect s.size 4)).2 u src (by omega) (by rw [(g1.trans g2).sc]; have := hbd.1; omega) (hbd.to (g1.trans g2) (by omega)) h
 have hres : pLet s.size pE n st = ({ n with word := (tk1 s.size st.l).word, p0 := (pE (st.expect s.size 4)).1, p1 := (pBody pE (tk1 s.size st.l).word (pE (st.expect s.size 4)).1 (pE (st.expect s.size 4)).2).1, p2 := -1 }, (pBody pE (tk1 s.size st.l).word (pE (st.expect s.size 4)).1 (pE (st.expect s.size 4)).2).2) := rfl
 simp only [hres]
 clear hres
 generalize tk1 s.size st.l = T at *
 generalize st.expect s.size 4 = st1 at *
 generalize pE st1 = X at *
 generalize hY : pBody pE T.word X.1 X.2 = Y at *
 have hbo' := fun w sv nv ov h => hbo w sv nv ov T.word X.1 h
 rw [hY] at hbo'
 unfold tnVal ptr at hex
 unfold ptr at hx hbo'
 simp only [Array.append_empty]
 show Calls _ _ #[Value.pointer (some ⟨pb, 0, none⟩), Value.pointer (some ⟨nb, 0, none⟩)] w _
 have HB : Hid _ := hb
 have HX : Hid _ := hx
 have HBO : Hid _ := hbo'
 clear h hb hx hbo hbo' g1 g2 g1l g2l hE hG hbd hY
 go_enter Tryz.func198, Tryz.ntmps198
 go_wp2_with fail
 refine hex.mono ?_
 rintro _ w1 ⟨rfl, hfr, hin⟩
 have hb1 := (HB.out.keep hfr).alloc (tnO T)
 have hT1 := Bk.new hin (tnO T)
 have hx1 := HX.out _ _ _ _ (hin.alloc (tnO T))
 have HF1 : Hid _ := hfr.alloc (tnO T)
 have HB1 : Hid _ := hb1
 have HT1 : Hid _ := hT1
 clear hfr hin hb1 hT1 hex HB HX
 unfold tnO tnC at hx1
 go_wp2_with fail
 refine hx1.mono ?_
 rintro _ w2 ⟨rfl, sv2, nv2, ov2, hfr2, hin2⟩
 have hb2 := HB1.out.keep hfr2
 have hT2 := HT1.out.keep hfr2
 have hy2 := HBO.out _ _ _ _ hin2
 have HF2 : Hid _ := HF1.out.trans hfr2
 have HB2 : Hid _ := hb2
 have HT2 : Hid _ := hT2
 have d3 : w2.cell? ⟨w1.heap.size, 3, none⟩ = some (.string (bs T.word)) := by rw [blk_cell hT2.b]; rfl
 clear hfr2 hin2 hb2 hT2 hx1 HB1 HT1 HF1 HBO
 go_wp2_with fail
 refine hy2.mono ?_
 rintro _ w3 ⟨rfl, sv3, nv3, ov3, hfr3, hin3⟩
 have hb3 := HB2.out.keep hfr3
 have hT3 := HT2.out.keep hfr3
 have e3 : w3.cell? ⟨w1.heap.size, 3, none⟩ = some (.string (bs T.word)) := by rw [blk_cell hT3.b]; rfl
 obtain ⟨c4, c7, c8, c9⟩ := nr_cells hb3.b
 have f4 := blk_free hb3.b 4
 have f7 := blk_free hb3.b 7
 have f8 := blk_free hb3.b 8
 have f9 := blk_free hb3.b 9
 obtain ⟨r1, r2, r3⟩ := hb3.set4 hin3 T.word X.1 Y.1 (-1)
 have HR1 : Hid _ := (HF2.out.nb (nb := nb)).trans ((hfr3.nb (nb := nb)).trans r1)
 have HR2 : Hid _ := r2
 have HR3 : Hid _ := r3
 clear hfr3 hin3 hb3 hT3 r1 r2 r3 hy2 HB2 HT2 HF2 d3
 go_wp2
 refine bodyPost_end (v := .tuple #[]) (by simp [results, Tryz.results198, go_sem]) rfl ⟨rfl, _, _, _, HR1.out, HR2.out, HR3.out⟩
set_option maxRecDepth 100000 in
set_option maxHeartbeats 4000000 in
theorem fillLoop_any (s : ByteArray) (placed : Bool) (pb : Nat) (pE : PS → Int × PS) (m : Nat) (hs : s.size ≤ 9000) (hE : EOk s placed pb pE m) (hG : GrAll pE m) : FOk s placed pb 199 #[] (fun n st => pLoop s.size pE n st) m := by
 intro nb w sv nv ov st n h hb hm hbd
 have ht := hE w sv nv ov st h hm (hbd.to (Gs.refl st) (by omega))
 have g0 := gs_pE hG st hm
 have g0l := g0.l
 have hex := fun w sv nv ov h => expect_any s placed pb w sv nv ov (pE st).2 4 hs h
 have g1 := gs_expect s.size 4 (pE st).2
 have g1l := g1.l
 have g2 := gs_pE hG ((pE st).2.expect s.size 4) (by omega)
 have g2l := g2.l
 have hx := fun w sv nv ov h => hE w sv nv ov ((pE st).2.expect s.size 4) h (by omega) (hbd.to (g0.trans g1) (by omega))
 have hbo := fun w sv nv ov u src h => body_any s placed pb pE m hE hG w sv nv ov (pE ((pE st).2.expect s.size 4)).2 u src (by omega) (by rw [((g0.trans g1).trans g2).sc]; have := hbd.1; omega) (hbd.to ((g0.trans g1).trans g2) (by omega)) h
 have hres : pLoop s.size pE n st = ({ n with word := (tk1 s.size (pE st).2.l).word, p0 := (pE st).1, p1 := (pE ((pE st).2.expect s.size 4)).1, p2 := (pBody pE (tk1 s.size (pE st).2.l).word (pE ((pE st).2.expect s.size 4)).1 (pE ((pE st).2.expect s.size 4)).2).1 }, (pBody pE (tk1 s.size (pE st).2.l).word (pE ((pE st).2.expect s.size 4)).1 (pE ((pE st).2.expect s.size 4)).2).2) := rfl
 simp only [hres]
 clear hres
 generalize pE st = Z at *
 generalize tk1 s.size Z.2.l = T at *
 generalize Z.2.expect s.size 4 = st1 at *
 generalize pE st1 = X at *
 generalize hY : pBody pE T.word X.1 X.2 = Y at *
 have hbo' := fun w sv nv ov h => hbo w sv nv ov T.word X.1 h
 rw [hY] at hbo'
 unfold tnVal ptr at hex
 unfold ptr at hx hbo' ht
 simp only [Array.append_empty]
 show Calls _ _ #[Value.pointer (some ⟨pb, 0, none⟩), Value.pointer (some ⟨nb, 0, none⟩)] w _
 have HB : Hid _ := hb
 have HX : Hid _ := hx
 have HEX : Hid _ := hex
 have HBO : Hid _ := hbo'
 clear h hb hx hbo hbo' g0 g1 g2 g0l g1l g2l hE hG hbd hY hex
 go_enter Tryz.func199, Tryz.ntmps199
 go_wp2_with fail
 refine ht.mono ?_
 rintro _ w0 ⟨rfl, sv0, nv0, ov0, hfr0, hin0⟩
 have hex := HEX.out _ _ _ _ hin0
 have HF0 : Hid _ := hfr0
 have HB0 : Hid _ := HB.out.keep hfr0
 clear hfr0 hin0 ht HB HEX
 go_wp2_with fail
 refine hex.mono ?_
 rintro _ w1 ⟨rfl, hfr, hin⟩
 have hb1 := (HB0.out.keep hfr).alloc (tnO T)
 have hT1 := Bk.new hin (tnO T)
 have hx1 := HX.out _ _ _ _ (hin.alloc (tnO T))
 have HF1 : Hid _ := HF0.out.trans (hfr.alloc (tnO T))
 have HB1 : Hid _ := hb1
 have HT1 : Hid _ := hT1
 clear hfr hin hb1 hT1 hex HB0 HX HF0
 unfold tnO tnC at hx1
 go_wp2_with fail
 refine hx1.mono ?_
 rintro _ w2 ⟨rfl, sv2, nv2, ov2, hfr2, hin2⟩
 have hb2 := HB1.out.keep hfr2
 have hT2 := HT1.out.keep hfr2
 have hy2 := HBO.out _ _ _ _ hin2
 have HF2 : Hid _ := HF1.out.trans hfr2
 have HB2 : Hid _ := hb2
 have HT2 : Hid _ := hT2
 have d3 : w2.cell? ⟨w1.heap.size, 3, none⟩ = some (.string (bs T.word)) := by rw [blk_cell hT2.b]; rfl
 clear hfr2 hin2 hb2 hT2 hx1 HB1 HT1 HF1 HBO
 go_wp2_with fail
 refine hy2.mono ?_
 rintro _ w3 ⟨rfl, sv3, nv3, ov3, hfr3, hin3⟩
 have hb3 := HB2.out.keep hfr3
 have hT3 := HT2.out.keep hfr3
 have e3 : w3.cell? ⟨w1.heap.size, 3, none⟩ = some (.string (bs T.word)) := by rw [blk_cell hT3.b]; rfl
 obtain ⟨c4, c7, c8, c9⟩ := nr_cells hb3.b
 have f4 := blk_free hb3.b 4
 have f7 := blk_free hb3.b 7
 have f8 := blk_free hb3.b 8
 have f9 := blk_free hb3.b 9
 obtain ⟨r1, r2, r3⟩ := hb3.set4 hin3 T.word Z.1 X.1 Y.1
 have HR1 : Hid _ := (HF2.out.nb (nb := nb)).trans ((hfr3.nb (nb := nb)).trans r1)
 have HR2 : Hid _ := r2
 have HR3 : Hid _ := r3
 clear hfr3 hin3 hb3 hT3 r1 r2 r3 hy2 HB2 HT2 HF2 d3
 go_wp2
 refine bodyPost_end (v := .tuple #[]) (by simp [results, Tryz.results199, go_sem]) rfl ⟨rfl, _, _, _, HR1.out, HR2.out, HR3.out⟩
end Go.Proofs.YtpicaknklgccoaaGreatDoor
