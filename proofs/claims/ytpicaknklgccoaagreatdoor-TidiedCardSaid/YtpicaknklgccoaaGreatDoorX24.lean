import Derived.Test.YtpicaknklgccoaaGreatDoorX23
namespace Go.Proofs.YtpicaknklgccoaaGreatDoor
open Go.RowKit
open Go.Lib (decDigits)
def mText : Vl → MV → MM → MM
 | .n _, _, m => m
 | .p a b, v, m => mText b (m.use v).1.b (mText a (m.use v).1.a (m.use v).2)
theorem stop_same (m : MM) (f : Nat) : (m.stop f).cells = m.cells ∧ (m.stop f).regs = m.regs ∧ (m.stop f).named = m.named ∧ (m.stop f).steps = m.steps ∧ (m.stop f).live = m.live ∧ (m.stop f).most = m.most := by unfold MM.stop; split <;> simp
theorem use_same (m : MM) (v : MV) : (m.use v).2.cells = m.cells ∧ (m.use v).2.regs = m.regs ∧ (m.use v).2.named = m.named ∧ (m.use v).2.steps = m.steps ∧ (m.use v).2.live = m.live ∧ (m.use v).2.most = m.most := by
 unfold MM.use; split
 ·simp
 ·simp only; split
  ·simp
  ·exact stop_same m 13
theorem text_same : ∀ (x : Vl) (v : MV) (m : MM), (mText x v m).cells = m.cells ∧ (mText x v m).regs = m.regs ∧ (mText x v m).named = m.named ∧ (mText x v m).steps = m.steps ∧ (mText x v m).live = m.live ∧ (mText x v m).most = m.most
 | .n _, _, m => by simp [mText]
 | .p a b, v, m => by
  simp only [mText]
  have h1 := use_same m v
  have h2 := text_same a (m.use v).1.a (m.use v).2
  have h3 := text_same b (m.use v).1.b (mText a (m.use v).1.a (m.use v).2)
  exact ⟨h3.1.trans (h2.1.trans h1.1), h3.2.1.trans (h2.2.1.trans h1.2.1), h3.2.2.1.trans (h2.2.2.1.trans h1.2.2.1), h3.2.2.2.1.trans (h2.2.2.2.1.trans h1.2.2.2.1), h3.2.2.2.2.1.trans (h2.2.2.2.2.1.trans h1.2.2.2.2.1), h3.2.2.2.2.2.trans (h2.2.2.2.2.2.trans h1.2.2.2.2.2)⟩
theorem text_bd {fuel : Nat} : ∀ (x : Vl) (v : MV) (m : MM), MBd fuel m → MBd fuel (mText x v m)
 | .n _, _, _, h => h
 | .p a b, v, m, h => by
  simp only [mText]
  exact text_bd b _ _ (text_bd a _ _ (MM.use_bd h v).1)
theorem dec4 (u : Nat) (h : u ≤ 9999) : (decDigits u).length ≤ 4 := by
 rw [Go.Lib.decDigits]; split
 ·simp
 ·rw [Go.Lib.decDigits]; split
  ·simp
  ·rw [Go.Lib.decDigits]; split
   ·simp
   ·rw [Go.Lib.decDigits]; split
    ·simp
    ·omega
theorem Rep.len {cells : List MC} : ∀ {x : Vl} {v : MV}, Rep cells x v → x.txt.length ≤ 7 * x.size + 4
 | .n k, _, h => by simp only [Rep] at h; simp only [Vl.txt, Vl.size]; have := dec4 k h.2.2; omega
 | .p a b, _, h => by
  simp only [Rep] at h
  obtain ⟨_, i, c, _, _, ha, hb⟩ := h
  have := Rep.len ha
  have := Rep.len hb
  simp only [Vl.txt, Vl.size, List.length_cons, List.length_append, List.length_nil]; omega
theorem Rep.use {cells : List MC} {a b : Vl} {v : MV} (h : Rep cells (.p a b) v) (m : MM) (hm : m.cells = cells) : Rep cells a (m.use v).1.a ∧ Rep cells b (m.use v).1.b := by
 simp only [Rep] at h
 obtain ⟨hc, i, c, hv, hi, ha, hb⟩ := h
 have hil := (List.getElem?_eq_some_iff.1 hi).1
 have e : (m.use v).1 = c := by
  unfold MM.use
  rw [if_neg (by rw [hc, hv, hm]; simp; omega)]
  simp only
  rw [hv, hm, Int.toNat_natCast, List.getD_eq_getElem?_getD, hi]; rfl
 rw [e]; exact ⟨ha, hb⟩
set_option maxRecDepth 100000 in
set_option maxHeartbeats 4000000 in
theorem text_any (mb B : Nat) (tn to_ : Value) (fuel : Nat) (hfu : fuel ≤ 20000) (ns : List NR) (op : List Int) (nv cv rv : Value) (cells : List MC) : ∀ (x : Vl) (v : MV) (w : World) (m : MM), m.cells = cells → Rep cells x v → x.size ≤ 63 → v.bd → MIn mb w tn to_ fuel nv cv rv m → MBd fuel m → MEnv mb B w nv cv rv tn to_ ns op →
  Lib.TabBelow Tryz.prog B w "internal/strconv.uint64pow10" .u64 Lib.pow10Tab → Calls Tryz.prog 99 #[ptr mb, mvV v] w fun e w' => e = .returned (.string (bs x.txt)) ∧ PFr mb mb w w' nv cv rv nv cv rv ∧ MIn mb w' tn to_ fuel nv cv rv (mText x v m)
 | .n k, v, w, m, hm, hr, hsz, hvb, hi, hbd, henv, htab => by
  simp only [Rep] at hr
  obtain ⟨hc, hn, hk⟩ := hr
  obtain ⟨vc, vn⟩ := v
  simp only at hc hn
  subst hc
  subst hn
  have hit := fun W (hW : Below w.heap.size w W) => itoa_ok W (htab W (hW.mono henv.s)) k W hk (Below.refl _ _)
  have HIT : Hid _ := hit
  have HI : Hid _ := hi
  simp only [Vl.txt, mText]
  clear hit hi hbd henv htab hvb hm
  unfold ptr mvV
  go_enter Tryz.func99, Tryz.ntmps99
  go_wp2_with fail
  refine Calls.mono (HIT.out _ (below_al (Below.refl _ _) _)) ?_
  rintro _ w2 ⟨rfl, hb2⟩
  have HB : Hid _ := (below_al (Below.refl _ w) (.cells #[.bool false, .int .i64 k] 171)).trans (hb2.mono (by simp))
  clear hb2 HIT
  go_wp2
  go_ret
  exact ⟨rfl, PFr.below mb mb nv cv rv HB.out, HI.out.below HB.out⟩
 | .p a b, v, w, m, hm, hr, hsz, hvb, hi, hbd, henv, htab => by
  have hl := hr.len
  have hra := hr.use m hm
  simp only [Rep] at hr
  obtain ⟨hc, i, c, hn, _, _, _⟩ := hr
  simp only [Vl.size] at hsz
  have hla := hra.1.len
  have hlb := hra.2.len
  have hus := fun W (hW : Below w.heap.size w W) => use_any mb W tn to_ fuel nv cv rv m v hbd hfu hvb (hi.below hW)
  have hbd2 := MM.use_bd hbd v
  have hsm := use_same m v
  have hta := fun W h1 h2 h3 => text_any mb B tn to_ fuel hfu ns op nv cv rv cells a (m.use v).1.a W (m.use v).2 (hsm.1.trans hm) hra.1 (by omega) hbd2.2.1 h1 hbd2.1 h2 h3
  have hsa := text_same a (m.use v).1.a (m.use v).2
  have htb := fun W h1 h2 h3 => text_any mb B tn to_ fuel hfu ns op nv cv rv cells b (m.use v).1.b W (mText a (m.use v).1.a (m.use v).2) (hsa.1.trans (hsm.1.trans hm)) hra.2 (by omega) hbd2.2.2 h1 (text_bd a _ _ hbd2.1) h2 h3
  have z1 : (ByteArray.mk #[91]).size = 1 := rfl
  have z2 : (ByteArray.mk #[32]).size = 1 := rfl
  have z3 : (ByteArray.mk #[93]).size = 1 := rfl
  have zA : (bs a.txt).size ≤ 500 := by rw [bs_size]; omega
  have zB : (bs b.txt).size ≤ 500 := by rw [bs_size]; omega
  have zC : (ByteArray.mk #[91] ++ bs a.txt).size ≤ 501 := by rw [ByteArray.size_append]; omega
  have zD : (ByteArray.mk #[91] ++ bs a.txt ++ ByteArray.mk #[32]).size ≤ 502 := by rw [ByteArray.size_append]; omega
  have zE : (ByteArray.mk #[91] ++ bs a.txt ++ ByteArray.mk #[32] ++ bs b.txt).size ≤ 1002 := by rw [ByteArray.size_append]; omega
  have hfin : ByteArray.mk #[91] ++ bs a.txt ++ ByteArray.mk #[32] ++ bs b.txt ++ ByteArray.mk #[93] = bs (Vl.txt (.p a b)) := by
   rw [show ByteArray.mk #[91] = bs [91] from rfl, show ByteArray.mk #[32] = bs [32] from rfl, show ByteArray.mk #[93] = bs [93] from rfl, bs_app, bs_app, bs_app, bs_app]
   simp [Vl.txt]
  have HFIN : Hid _ := hfin
  have HUS : Hid _ := hus
  have HTA : Hid _ := hta
  have HTB : Hid _ := htb
  have HENV : Hid _ := henv
  have HTAB : Hid _ := htab
  simp only [mText]
  clear hus hta htb hsm hsa hbd2 hra hla hlb hl hi hbd henv htab hvb hm hfin hsz
  generalize m.use v = z at *
  obtain ⟨vc, vn⟩ := v
  simp only at hc hn
  subst hc
  subst hn
  unfold ptr mvV at HUS
  unfold ptr mvV
  go_enter Tryz.func99, Tryz.ntmps99
  go_wp2_with fail
  refine Calls.mono (HUS.out _ (below_al (Below.refl _ _) _)) ?_
  rintro _ w2 ⟨rfl, hf2, hi2⟩
  obtain ⟨W3, hE3⟩ : ∃ W3, W3 = w2.alloc (.cells #[.bool z.1.a.c, .int .i64 z.1.a.n, .bool z.1.b.c, .int .i64 z.1.b.n, .int .i64 z.1.home, .int .i64 z.1.ser] 219) := ⟨_, rfl⟩
  have hW3 : Below w2.heap.size w2 W3 := by rw [hE3]; exact below_al (Below.refl _ _) _
  have hf3 : PFr mb mb w W3 nv cv rv nv cv rv := ((PFr.below mb mb nv cv rv (below_al (Below.refl _ w) _)).trans hf2).trans (PFr.below mb mb nv cv rv hW3)
  have hi3 := hi2.below hW3
  have henv3 := HENV.out.on hf3
  have htab3 : Lib.TabBelow Tryz.prog B W3 "internal/strconv.uint64pow10" .u64 Lib.pow10Tab := fun w' h' => HTAB.out w' ((HENV.out.bel hf3).trans h')
  have hs3 : Beside mb w2.heap.size W3 nv cv rv (.cells #[.bool z.1.a.c, .int .i64 z.1.a.n, .bool z.1.b.c, .int .i64 z.1.b.n, .int .i64 z.1.home, .int .i64 z.1.ser] 219) := Beside.new hi2 (by rw [hE3]; exact blk_new w2 _) (Nat.le_refl _)
  have hca := HTA.out W3 hi3 henv3 htab3
  have HCA : Hid _ := hca
  have HF3 : Hid _ := hf3
  have HENV3 : Hid _ := henv3
  have HTAB3 : Hid _ := htab3
  have HS3 : Hid _ := hs3
  clear hf2 hi2 hW3 hf3 hi3 henv3 htab3 hs3 hca HUS HTA HENV HTAB
  unfold ptr mvV at HCA
  unfold mcV
  go_wp2_with fail
  rw [← hE3]
  refine Calls.mono HCA.out ?_
  rintro _ w4 ⟨rfl, hf4, hi4⟩
  have hs4 := HS3.out.keep hf4
  have hcb := HTB.out w4 hi4 (HENV3.out.on hf4) (fun w' h' => HTAB3.out w' ((HENV3.out.bel hf4).trans h'))
  have HCB : Hid _ := hcb
  have HF4 : Hid _ := HF3.out.trans hf4
  obtain ⟨e0, e1, e2, e3, e4, e5⟩ := mc_cells hs4.b
  have hl4 := blk_lt hs4.b
  clear hE3 hf4 hi4 hs4 hcb HCA HF3 HENV3 HTAB3 HS3 HTB
  unfold ptr mvV at HCB
  generalize w2.heap.size = p at *
  go_wp2_with fail
  refine Calls.mono HCB.out ?_
  rintro _ w5 ⟨rfl, hf5, hi5⟩
  have HF5 : Hid _ := HF4.out.trans hf5
  have HI5 : Hid _ := hi5
  clear hf5 hi5 HCB HF4 e0 e1 e2 e3 e4 e5 hl4
  go_wp2
  go_ret
  exact ⟨by rw [← HFIN.out]; rfl, HF5.out, HI5.out⟩
end Go.Proofs.YtpicaknklgccoaaGreatDoor
