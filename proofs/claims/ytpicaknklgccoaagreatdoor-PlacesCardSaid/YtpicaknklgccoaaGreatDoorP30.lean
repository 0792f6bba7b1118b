import Derived.Test.YtpicaknklgccoaaGreatDoorP29
namespace Go.Proofs.YtpicaknklgccoaaGreatDoor
open Go.RowKit
open Go.Lib (decDigits)
def intVs (l : List Int) : List Value := l.map fun k => Value.int .i64 k
structure LyIn (w : World) (L : Ly) : Prop where
 r : w.ownsRow 0 3 1 L.lr L.regs.length (intVs L.regs)
 a : w.ownsRow 0 3 1 L.la L.news.length (intVs L.news)
theorem LyIn.below {w w' : World} {L : Ly} (h : LyIn w L) (hb : Below w.heap.size w w') : LyIn w' L := ⟨owns_below h.r hb, owns_below h.a hb⟩
structure WEnv (L : Ly) (wb : Nat) (w : World) (nv ov : Value) (ns : List NR) (op : List Int) : Prop where
 tree : ∀ w', Below wb w w' → TreeIn w' nv ov ns op
 tab : Lib.TabBelow Tryz.prog wb w "internal/strconv.uint64pow10" .u64 Lib.pow10Tab
 len : ns.length ≤ 9000
 lay : ∀ w', Below wb w w' → LyIn w' L
 bd : LyB L.regs L.news
 rl : L.regs.length ≤ 9000
theorem WEnv.on {L : Ly} {wb : Nat} {w w1 : World} {nv ov : Value} {ns : List NR} {op : List Int} (h : WEnv L wb w nv ov ns op) (hb : Below wb w w1) : WEnv L wb w1 nv ov ns op := ⟨fun w' h' => h.tree w' (hb.trans h'), h.tab.on hb, h.len, fun w' h' => h.lay w' (hb.trans h'), h.bd, h.rl⟩
theorem WFr.below {wb : Nat} {w w' : World} {v v' : Value} (h : WFr wb w w' v v') (hw : wb ≤ w.heap.size) (hv : ∀ g, v.ownBlock = some g → wb < g) : Below wb w w' :=
 ⟨h.os, h.tape, h.output, h.size, fun k hk => h.blk k (by omega) (by omega) (fun e => by have := hv k e; omega)⟩
theorem WIn.fr {L : Ly} {wb : Nat} {w w' : World} {nv ov v v' : Value} {tx : List UInt8} (h : WIn L wb w nv ov v tx) (hf : WFr wb w w' v v') : Below wb w w' :=
 hf.below (Nat.le_of_lt (blk_lt h.blk)) (fun g hg => by have := (h.row.lt g hg).1; omega)
def ExpOk (L : Ly) (wb : Nat) (nv ov : Value) (ns : List NR) (op : List Int) (t : PT) : Prop := ∀ (base : Nat) (w : World) (v : Value) (tx : List UInt8), Shows ns t base → t.tame → t.wf → base + t.cnt ≤ ns.length → tx.length + 22000 * t.cnt ≤ 200000000 →
 WIn L wb w nv ov v tx → WEnv L wb w nv ov ns op → Calls Tryz.prog 67 #[.pointer (some ⟨wb, 0, none⟩), .int .i64 (((base + t.cnt : Nat) : Int) - 1)] w fun e w' => ∃ v', e = .returned (.tuple #[]) ∧ WFr wb w w' v v' ∧ WIn L wb w' nv ov v' (tx ++ t.wtx L.regs L.news base)
def FmOk (L : Ly) (wb : Nat) (nv ov : Value) (ns : List NR) (op : List Int) (t : PT) : Prop := ∀ (base : Nat) (w : World) (v : Value) (tx : List UInt8), Shows ns t base → t.tame → t.wf → base + t.cnt ≤ ns.length → tx.length + 22000 * t.cnt ≤ 200001650 →
 WIn L wb w nv ov v tx → WEnv L wb w nv ov ns op → Calls Tryz.prog 110 #[.pointer (some ⟨wb, 0, none⟩), .int .i64 (((base + t.cnt : Nat) : Int) - 1)] w fun e w' => ∃ v', e = .returned (.tuple #[]) ∧ WFr wb w w' v v' ∧ WIn L wb w' nv ov v' (tx ++ t.ftx L.regs L.news base)
theorem ints_at {w : World} {l : List Int} {g cap : Nat} (h : w.ownsRow 0 3 1 (.slice (some ⟨g, 0, none⟩) l.length cap) l.length (intVs l)) (k : Nat) (x : Int) (hk : l[k]? = some x) : w.cell? ⟨g, k, none⟩ = some (.int .i64 x) := by
 rw [h.cellAt k (by have := (List.getElem?_eq_some_iff.1 hk).1; omega)]; unfold intVs; rw [List.getElem?_map, hk]; rfl
theorem Regions_any (w : World) (L : Ly) (h : LyIn w L) : Calls Tryz.prog 138 #[.agg #[L.lr, L.la]] w fun v w' => v = .returned (.int .i64 L.news.length) ∧ Below w.heap.size w w' := by
 obtain ⟨a0, c0, e0⟩ := slice_any h.r
 obtain ⟨a1, c1, e1⟩ := slice_any h.a
 rw [e0, e1]
 clear h e0 e1
 generalize L.news.length = m
 generalize L.regs.length = n
 go_enter Tryz.func138, Tryz.ntmps138
 go_wp2
 go_ret
 exact ⟨rfl, (Below.refl _ _).alloc (Nat.le_refl _) _⟩
set_option maxRecDepth 100000 in
theorem Region_any (w : World) (L : Ly) (h : LyIn w L) (hl : L.regs.length ≤ 9000) (i : Nat) (hi : i ≤ 9000) : Calls Tryz.prog 141 #[.agg #[L.lr, L.la], .int .i64 i] w fun v w' => v = .returned (.int .i64 (rgV L.regs i)) ∧ Below w.heap.size w w' := by
 have hr := h.r
 obtain ⟨a1, c1, e1⟩ := slice_any h.a
 rw [e1]
 clear h e1
 generalize L.news.length = m
 generalize L.lr = lr at *
 generalize L.regs = l at *
 by_cases hlt : i < l.length
 ·obtain ⟨g, cap, rfl⟩ := slice_of hr (by omega)
  have c := ints_at hr i l[i] (List.getElem?_eq_getElem hlt)
  have e : rgV l i = l[i] := by unfold rgV; rw [List.getElem?_eq_getElem hlt]; rfl
  rw [e]
  have hg : g < w.heap.size := (hr.lt g rfl).2
  generalize l[i] = x at *
  generalize l.length = n at *
  clear hr e
  go_enter Tryz.func141, Tryz.ntmps141
  go_wp2
  go_ret
  exact ⟨rfl, (Below.refl _ _).alloc (Nat.le_refl _) _⟩
 ·have e : rgV l i = -1 := by unfold rgV; rw [List.getElem?_eq_none (by omega)]; rfl
  rw [e]
  obtain ⟨a0, c0, rfl⟩ := slice_any hr
  generalize l.length = n at *
  clear hr e
  go_enter Tryz.func141, Tryz.ntmps141
  go_wp2
  go_ret
  exact ⟨rfl, (Below.refl _ _).alloc (Nat.le_refl _) _⟩
set_option maxRecDepth 100000 in
theorem About_any (w : World) (L : Ly) (h : LyIn w L) (i : Nat) (x : Int) (hx : L.news[i]? = some x) (hl : L.news.length ≤ 9000) : Calls Tryz.prog 139 #[.agg #[L.lr, L.la], .int .i64 i] w fun v w' => v = .returned (.int .i64 x) ∧ Below w.heap.size w w' := by
 have hr := h.a
 obtain ⟨a1, c1, e1⟩ := slice_any h.r
 rw [e1]
 clear h e1
 generalize L.regs.length = m
 generalize L.la = lr at *
 generalize L.news = l at *
 have hlt := (List.getElem?_eq_some_iff.1 hx).1
 obtain ⟨g, cap, rfl⟩ := slice_of hr (by omega)
 have c := ints_at hr i x hx
 have hg : g < w.heap.size := (hr.lt g rfl).2
 generalize l.length = n at *
 clear hr hx
 go_enter Tryz.func139, Tryz.ntmps139
 go_wp2
 go_ret
 exact ⟨rfl, (Below.refl _ _).alloc (Nat.le_refl _) _⟩
theorem WEnv.itoa {L : Ly} {wb : Nat} {w : World} {nv ov : Value} {ns : List NR} {op : List Int} (h : WEnv L wb w nv ov ns op) (m : Nat) (hm : m ≤ 9999) : Calls Tryz.prog 49 #[.int .i64 m] w fun e w2 => e = .returned (.string (bs (decDigits m))) ∧ Below w.heap.size w w2 :=
 itoa_ok w (h.tab w (Below.refl _ _)) m w (by omega) (Below.refl _ _)
set_option maxRecDepth 100000 in
set_option maxHeartbeats 1000000 in
theorem putRegion_any (L : Ly) (wb : Nat) (w : World) (nv ov v : Value) (ns : List NR) (op : List Int) (tx : List UInt8) (m : Nat) (hm : m ≤ 9999) (hin : WIn L wb w nv ov v tx) (henv : WEnv L wb w nv ov ns op) (hl : tx.length ≤ 390000000) :
  Calls Tryz.prog 140 #[.pointer (some ⟨wb, 0, none⟩), .int .i64 m] w fun e w' => ∃ v', e = .returned (.tuple #[]) ∧ WFr wb w w' v v' ∧ WIn L wb w' nv ov v' (tx ++ ([32, 35] ++ decDigits m)) := by
 have hd := dec_len4 m hm
 have hp1 : Calls Tryz.prog 111 #[.pointer (some ⟨wb, 0, none⟩), .string ⟨#[32, 35]⟩] w fun e w2 => ∃ v2, e = .returned (.tuple #[]) ∧ WFr wb w w2 v v2 ∧ WIn L wb w2 nv ov v2 (tx ++ [32, 35]) := put_any wb w nv ov v tx [32, 35] hin (by simp; omega)
 have hp2 := fun (w' : World) (v' : Value) (h : WIn L wb w' nv ov v' (tx ++ [32, 35])) => put_any wb w' nv ov v' (tx ++ [32, 35]) (decDigits m) h (by simp; omega)
 have hon : ∀ (w' : World) (v' : Value), WFr wb w w' v v' → Calls Tryz.prog 49 #[.int .i64 m] w' fun e w2 => e = .returned (.string (bs (decDigits m))) ∧ Below w'.heap.size w' w2 := fun w' v' hf => (henv.on (hin.fr hf)).itoa m (by omega)
 have e0 : tx ++ [32, 35] ++ decDigits m = tx ++ ([32, 35] ++ decDigits m) := by simp
 have HP1 : Hid _ := hp1
 have HP2 : Hid _ := hp2
 have HON : Hid _ := hon
 have HE : Hid _ := e0
 clear hp1 hp2 hon e0 hin henv
 go_enter Tryz.func140, Tryz.ntmps140
 go_wp2_with fail
 refine Calls.mono HP1.out ?_
 rintro _ w1 ⟨v1, rfl, hf1, hi1⟩
 have hon1 := HON.out _ _ hf1
 have HF1 : Hid _ := hf1
 have HI1 : Hid _ := hi1
 clear hf1 hi1 HON HP1
 go_wp2_with fail
 refine hon1.mono ?_
 rintro _ w2 ⟨rfl, hb2⟩
 have HI2 : Hid _ := HI1.out.below hb2
 have HF2 : Hid _ := HF1.out.trans (WFr.of_below v1 hb2)
 clear hb2 hon1 HI1 HF1
 go_wp2_with fail
 refine (HP2.out _ _ HI2.out).mono ?_
 rintro _ w3 ⟨v3, rfl, hf3, hi3⟩
 rw [HE.out] at hi3
 have HF3 : Hid _ := HF2.out.trans hf3
 have HI3 : Hid _ := hi3
 clear hf3 hi3
 go_wp2_with fail
 refine bodyPost_end (v := .tuple #[]) (by simp [results, Tryz.results140, go_sem]) rfl ⟨v3, rfl, HF3.out, HI3.out⟩
set_option maxRecDepth 100000 in
set_option maxHeartbeats 4000000 in
theorem openNews_any (L : Ly) (wb : Nat) (w : World) (nv ov v : Value) (ns : List NR) (op : List Int) (tx : List UInt8) (i : Nat) (hin : WIn L wb w nv ov v tx) (henv : WEnv L wb w nv ov ns op) (hl : tx.length ≤ 200000000) :
  Calls Tryz.prog 109 #[.pointer (some ⟨wb, 0, none⟩), .int .i64 i] w fun e w' => ∃ v', e = .returned (.int .i64 (clN L.news i)) ∧ WFr wb w w' v v' ∧ WIn L wb w' nv ov v' (tx ++ opT L.news 0 i) := by
 have hlay := fun (w' : World) (v' : Value) (h : WFr wb w w' v v') => henv.lay w' (hin.fr h)
 have hnl := henv.bd.n
 have hRe := fun (w' : World) (v' : Value) (h : WFr wb w w' v v') => Regions_any w' L (hlay w' v' h)
 have hAb := fun (w' : World) (v' : Value) (h : WFr wb w w' v v') (k : Nat) (x : Int) (hx : L.news[k]? = some x) => About_any w' L (hlay w' v' h) k x hx (by omega)
 have hPR := fun (w' : World) (v' : Value) (tx' : List UInt8) (k : Nat) (hk : k ≤ 9999) (h : WFr wb w w' v v') (h1 : WIn L wb w' nv ov v' tx') (hl' : tx'.length ≤ 390000000) => putRegion_any L wb w' nv ov v' ns op tx' k hk h1 (henv.on (hin.fr h)) hl'
 have hp4 : ∀ w' v' tx' (h : WIn L wb w' nv ov v' tx') (hl : tx'.length ≤ 390000000), Calls Tryz.prog 111 #[.pointer (some ⟨wb, 0, none⟩), .string ⟨#[40, 110, 101, 119]⟩] w' fun e w2 => ∃ v2, e = .returned (.tuple #[]) ∧ WFr wb w' w2 v' v2 ∧ WIn L wb w2 nv ov v2 (tx' ++ [40, 110, 101, 119]) := fun w' v' tx' h hl => put_any wb w' _ _ v' tx' [40, 110, 101, 119] h (by simp; omega)
 have hp32 : ∀ w' v' tx' (h : WIn L wb w' nv ov v' tx') (hl : tx'.length ≤ 390000000), Calls Tryz.prog 111 #[.pointer (some ⟨wb, 0, none⟩), .string ⟨#[32]⟩] w' fun e w2 => ∃ v2, e = .returned (.tuple #[]) ∧ WFr wb w' w2 v' v2 ∧ WIn L wb w2 nv ov v2 (tx' ++ [32]) := fun w' v' tx' h hl => put_any wb w' _ _ v' tx' [32] h (by simp; omega)
 have hlen : ∀ k, (opT (L.news.take k) 0 i).length ≤ 11 * 150 := fun k => by
  have := opT_len i (L.news.take k) 0 (by simp only [List.length_take]; omega)
  simp only [List.length_take] at this; omega
 have hstep : ∀ k x, L.news[k]? = some x → L.news.take (k + 1) = L.news.take k ++ [x] := fun k x hx => by rw [List.take_add_one, hx]; rfl
 have hcells : ∀ (w' : World) (v' : Value) (tx' : List UInt8), WIn L wb w' nv ov v' tx' → w'.cell? ⟨wb, 2, none⟩ = some L.lr ∧ w'.cell? ⟨wb, 3, none⟩ = some L.la ∧ wb < w'.heap.size := fun w' v' tx' h => ⟨by rw [blk_cell h.blk]; rfl, by rw [blk_cell h.blk]; rfl, blk_lt h.blk⟩
 obtain ⟨a0, c0, e0⟩ := slice_any (hlay w v (WFr.refl _ _ _)).r
 obtain ⟨a1, c1, e1⟩ := slice_any (hlay w v (WFr.refl _ _ _)).a
 have HCE : Hid _ := hcells
 rw [e0, e1] at hRe hAb HCE
 have HRE : Hid _ := hRe
 have HAB : Hid _ := hAb
 have HPR : Hid _ := hPR
 have HP4 : Hid _ := hp4
 have HP32 : Hid _ := hp32
 have HLEN : Hid _ := hlen
 have HST : Hid _ := hstep
 have HIN : Hid _ := hin
 obtain ⟨m, hm⟩ : ∃ m, m = L.news.length := ⟨_, rfl⟩
 have HM : Hid _ := hm
 rw [← hm] at HRE HAB HCE hnl
 generalize L.regs.length = nr at *
 clear hRe hAb hPR hp4 hp32 hlen hstep hlay hin henv e0 e1 hcells hm
 go_enter Tryz.func109, Tryz.ntmps109
 go_wp2
 go_loopw [5, 6] (fun a b wr => ∃ (k : Nat) (vr : Value), k ≤ m ∧ a = .int .i64 (clN (L.news.take k) i) ∧ b = .int .i64 k ∧ WFr wb w wr v vr ∧ WIn L wb wr nv ov vr (tx ++ opT (L.news.take k) 0 i)) (fun _ b _ => m - (intOf b).toNat)
 case atStart => exact ⟨0, v, by omega, rfl, rfl, WFr.refl _ _ _, by simpa [opT] using HIN.out⟩
 case round =>
  obtain ⟨k, vr, hk, rfl, rfl, hfr, hinr⟩ := hrel
  obtain ⟨y2, y3, yl⟩ := HCE.out _ _ _ hinr
  have hre := HRE.out _ _ hfr
  have hll := HLEN.out k
  have hcn : clN (L.news.take k) i ≤ 150 := by have := clN_le (L.news.take k) i; simp only [List.length_take] at this; omega
  have HFR : Hid _ := hfr
  have HINR : Hid _ := hinr
  clear hfr hinr
  go_wp2_with fail
  refine hre.mono ?_
  rintro _ w1 ⟨rfl, hb1⟩
  have HF1 : Hid _ := HFR.out.trans (WFr.of_below vr hb1)
  have HI1 : Hid _ := HINR.out.below hb1
  clear hb1 hre HFR HINR y2 y3 yl
  obtain ⟨y2, y3, yl⟩ := HCE.out _ _ _ HI1.out
  by_cases hlt : k < m
  ·have hkl : k < L.news.length := by have := HM.out; omega
   obtain ⟨x, hx⟩ : ∃ x, L.news[k]? = some x := ⟨L.news[k], List.getElem?_eq_getElem hkl⟩
   have hab := HAB.out _ _ HF1.out k x hx
   have hts := HST.out k x hx
   have hos := opT_snoc i x (L.news.take k) 0
   have hcs := clN_snoc (L.news.take k) x i
   rw [← hts, List.length_take, Nat.min_eq_left (by omega), Nat.zero_add] at hos
   rw [← hts] at hcs
   have HOS : Hid _ := hos
   have HCS : Hid _ := hcs
   clear hx hts hos hcs hkl
   go_wp2_with fail
   refine hab.mono ?_
   rintro _ w2 ⟨rfl, hb2⟩
   have HF2 : Hid _ := HF1.out.trans (WFr.of_below vr hb2)
   have HI2 : Hid _ := HI1.out.below hb2
   clear hb2 hab HF1 HI1 y2 y3 yl
   by_cases hxi : x = (i : Int)
   ·have q : (x == (i : Int)) = true := by rw [hxi]; simp
    have e1 : tx ++ opT (L.news.take k) 0 i ++ [40, 110, 101, 119] ++ ([32, 35] ++ decDigits k) ++ [32] = tx ++ opT (L.news.take (k + 1)) 0 i := by rw [HOS.out, if_pos hxi]; simp [opR]
    have e2 : clN (L.news.take (k + 1)) i = clN (L.news.take k) i + 1 := by rw [HCS.out, if_pos hxi]
    have HE1 : Hid _ := e1
    have HE2 : Hid _ := e2
    have hd4 := dec_len4 k (by omega)
    clear hxi e1 e2 HOS HCS
    go_wp2_with fail
    refine (HP4.out _ _ _ HI2.out (by simp; omega)).mono ?_
    rintro _ w3 ⟨v3, rfl, hf3, hi3⟩
    have HF3 : Hid _ := HF2.out.trans hf3
    have HI3 : Hid _ := hi3
    clear hf3 hi3 HF2 HI2
    go_wp2_with fail
    refine (HPR.out _ _ _ k (by omega) HF3.out HI3.out (by simp; omega)).mono ?_
    rintro _ w4 ⟨v4, rfl, hf4, hi4⟩
    have HF4 : Hid _ := HF3.out.trans hf4
    have HI4 : Hid _ := hi4
    clear hf4 hi4 HF3 HI3
    go_wp2_with fail
    refine (HP32.out _ _ _ HI4.out (by simp; omega)).mono ?_
    rintro _ w5 ⟨v5, rfl, hf5, hi5⟩
    rw [HE1.out] at hi5
    have HF5 : Hid _ := HF4.out.trans hf5
    have HI5 : Hid _ := hi5
    clear hf5 hi5 HF4 HI4
    generalize clN (L.news.take k) i = cc at *
    go_wp2
    go_roundw
    case rel => exact ⟨k + 1, v5, by omega, by rw [HE2.out]; go_num, by go_num, HF5.out, HI5.out⟩
    case measure => simp [intOf]; omega
   ·have q : (x == (i : Int)) = false := by rw [beq_eq_false_iff_ne]; exact hxi
    have hi2 := HI2.out
    have e2 : clN (L.news.take (k + 1)) i = clN (L.news.take k) i := by rw [HCS.out, if_neg hxi]; rfl
    have e1 : opT (L.news.take k) 0 i = opT (L.news.take (k + 1)) 0 i := by rw [HOS.out, if_neg hxi]; simp
    rw [e1] at hi2
    have HI5 : Hid _ := hi2
    have HE2 : Hid _ := e2
    clear hxi e1 e2 HOS HCS hi2 HI2
    generalize clN (L.news.take k) i = cc at *
    go_wp2
    go_roundw
    case rel => exact ⟨k + 1, vr, by omega, by rw [HE2.out], by go_num, HF2.out, HI5.out⟩
    case measure => simp [intOf]; omega
  ·have hkm : k = L.news.length := by have := HM.out; omega
   have et : L.news.take k = L.news := by rw [hkm]; exact List.take_length
   have hi1 := HI1.out
   rw [et] at hi1 ⊢
   have HI2 : Hid _ := hi1
   clear hi1 et hkm HI1
   go_wp2
   go_ret
   exact ⟨_, rfl, HF1.out, HI2.out⟩
set_option maxRecDepth 100000 in
set_option maxHeartbeats 2000000 in
theorem exp_of (L : Ly) (wb : Nat) (nv ov : Value) (ns : List NR) (op : List Int) (t : PT) (hf : FmOk L wb nv ov ns op t) : ExpOk L wb nv ov ns op t := by
 intro base w v tx hsh hta hwf hle hlim hin henv
 have hcx := cnt_pos' t
 obtain ⟨M, hM⟩ : ∃ M : Nat, (((base + t.cnt : Nat) : Int) - 1) = (M : Int) := ⟨base + t.cnt - 1, by omega⟩
 have hon := openNews_any L wb w nv ov v ns op tx M hin henv (by omega)
 have hol := opT_len (M : Int) L.news 0 (by have := henv.bd.n; omega)
 have hcl := clN_le L.news (M : Int)
 have hnl := henv.bd.n
 have hfl := ftx_len henv.bd t base hta
 have hfm := fun (w' : World) (v' : Value) (hb : WFr wb w w' v v') (h1 : WIn L wb w' nv ov v' (tx ++ opT L.news 0 M)) => hf base w' v' (tx ++ opT L.news 0 M) hsh hta hwf hle (by simp; omega) h1 (henv.on (hin.fr hb))
 have hw : t.wtx L.regs L.news base = opT L.news 0 M ++ (t.ftx L.regs L.news base ++ List.replicate (clN L.news M) 41) := by unfold PT.wtx clT; rw [hM]
 rw [hM] at hfm ⊢
 rw [hw]
 have hp41 : ∀ w' v' tx' (h : WIn L wb w' nv ov v' tx') (hl : tx'.length ≤ 390000000), Calls Tryz.prog 111 #[.pointer (some ⟨wb, 0, none⟩), .string ⟨#[41]⟩] w' fun e w2 => ∃ v2, e = .returned (.tuple #[]) ∧ WFr wb w' w2 v' v2 ∧ WIn L wb w2 nv ov v2 (tx' ++ [41]) := fun w' v' tx' h hl => put_any wb w' _ _ v' tx' [41] h (by simp; omega)
 have HFM : Hid _ := hfm
 have HP41 : Hid _ := hp41
 generalize t.ftx L.regs L.news base = fx at *
 generalize opT L.news 0 M = ox at *
 generalize clN L.news M = cn at *
 have e0 : tx ++ ox ++ fx = tx ++ ox ++ fx ++ List.replicate 0 41 := by simp
 have hrep : ∀ j, tx ++ ox ++ fx ++ List.replicate j 41 ++ [41] = tx ++ ox ++ fx ++ List.replicate (j + 1) 41 := fun j => by rw [List.append_assoc, ← List.replicate_succ']
 have eend : tx ++ ox ++ fx ++ List.replicate cn 41 = tx ++ (ox ++ (fx ++ List.replicate cn 41)) := by simp
 have HE0 : Hid _ := e0
 have HRP : Hid _ := hrep
 have HEE : Hid _ := eend
 have hcnt9 : t.cnt ≤ 9000 := by have := henv.len; omega
 generalize t.cnt = tc at *
 clear hfm hf hin henv hsh hta hwf hle hM hw hp41 e0 hrep eend
 go_enter Tryz.func67, Tryz.ntmps67
 go_wp2_with fail
 refine hon.mono ?_
 rintro _ w1 ⟨v1, rfl, hf1, hi1⟩
 have HF1 : Hid _ := hf1
 have HI1 : Hid _ := hi1
 clear hf1 hi1 hon
 go_wp2_with fail
 refine (HFM.out _ _ HF1.out HI1.out).mono ?_
 rintro _ w2 ⟨v2, rfl, hfr, hin2⟩
 rw [HE0.out] at hin2
 have HF : Hid _ := HF1.out.trans hfr
 have HI : Hid _ := hin2
 clear hfr hin2 HF1 HI1 HFM HE0
 go_wp2
 go_loopw [4] (fun a wr => ∃ (j : Nat) (vr : Value), j ≤ cn ∧ a = .int .i64 ((cn - j : Nat) : Int) ∧ WFr wb w wr v vr ∧ WIn L wb wr nv ov vr (tx ++ ox ++ fx ++ List.replicate j 41)) (fun a _ => (intOf a).toNat)
 case atStart => exact ⟨0, v2, by omega, by simp, HF.out, HI.out⟩
 case round =>
  obtain ⟨j, vr, hj, rfl, hfr, hinr⟩ := hrel
  have HFR : Hid _ := hfr
  have HIR : Hid _ := hinr
  clear hfr hinr HF HI
  by_cases hlt : j < cn
  ·have hrp := HRP.out j
   have HR2 : Hid _ := hrp
   clear hrp
   obtain ⟨z, hz⟩ : ∃ z, cn - j = z + 1 := ⟨cn - j - 1, by omega⟩
   rw [hz]
   have hzz : cn - (j + 1) = z := by omega
   go_wp2_with fail
   refine (HP41.out _ _ _ HIR.out (by simp; omega)).mono ?_
   rintro _ w3 ⟨v3, rfl, hf3, hi3⟩
   rw [HR2.out] at hi3
   have HF3 : Hid _ := HFR.out.trans hf3
   have HI3 : Hid _ := hi3
   clear hf3 hi3 HFR HIR
   go_wp2
   go_roundw
   case rel => exact ⟨j + 1, v3, by omega, by rw [hzz]; first | done | go_num, HF3.out, HI3.out⟩
   case measure => simp [intOf]
  ·have hj2 : j = cn := by omega
   subst hj2
   have hi := HIR.out
   rw [HEE.out] at hi
   have HI2 : Hid _ := hi
   clear hi HIR
   rw [show j - j = 0 by omega]
   go_wp2
   refine bodyPost_end (v := .tuple #[]) (by simp [results, Tryz.results67, go_sem]) rfl ⟨vr, rfl, HFR.out, HI2.out⟩
set_option maxRecDepth 100000 in
set_option maxHeartbeats 2000000 in
theorem fm_name (L : Ly) (wb : Nat) (x1 : Option Addr) (n1 c1 : Nat) (x2 : Option Addr) (n2 c2 : Nat) (ns : List NR) (op : List Int) (p : Nat) (s : List UInt8) : FmOk L wb (.slice x1 n1 c1) (.slice x2 n2 c2) ns op (.name p s) := by
 intro base w v tx hsh hta hwf hle hlim hin henv
 simp only [Shows] at hsh
 obtain ⟨n, hn, hf, hwd⟩ := hsh
 simp only [PT.tame] at hta
 simp only [PT.cnt] at hle hlim
 have hno := Node_in' w (.slice x1 n1 c1) (.slice x2 n2 c2) ns op (henv.tree w (Below.refl _ _)) base n hn henv.len
 have hbl := henv.len
 have hb := hin.blk
 have y0 : w.cell? ⟨wb, 0, none⟩ = some (.slice x1 n1 c1) := by rw [blk_cell hb]; rfl
 have y1 : w.cell? ⟨wb, 1, none⟩ = some (.slice x2 n2 c2) := by rw [blk_cell hb]; rfl
 have hput := fun w' (h : WIn L wb w' (.slice x1 n1 c1) (.slice x2 n2 c2) v tx) => put_any wb w' _ _ v tx s h (by omega)
 have HP : Hid _ := hput
 have HIN : Hid _ := hin
 have hlt := blk_lt hb
 unfold treeV nrVal at hno
 rw [hf, hwd] at hno
 simp only [PT.ftx, PT.cnt]
 rw [show (((base + 1 : Nat) : Int) - 1) = (base : Int) from by omega]
 clear hb hin henv hput hn
 go_enter Tryz.func110, Tryz.ntmps110
 go_wp2_with (first
  | (go_at_call 94; refine hno.mono ?_; rintro _ w1 ⟨rfl, hb1⟩)
  | (go_at_call 111; refine (HP.out _ (HIN.out.below (hb1.alloc hb1.size _))).mono ?_; rintro _ w2 ⟨v', rfl, hfr, hin'⟩))
 refine bodyPost_end (v := .tuple #[]) (by simp [results, Tryz.results110, go_sem]) rfl ⟨v', rfl, (WFr.of_below v (hb1.alloc hb1.size _)).trans hfr, hin'⟩
set_option maxRecDepth 100000 in
set_option maxHeartbeats 2000000 in
theorem fm_num (L : Ly) (wb : Nat) (x1 : Option Addr) (n1 c1 : Nat) (x2 : Option Addr) (n2 c2 : Nat) (ns : List NR) (op : List Int) (p : Nat) (s : List UInt8) : FmOk L wb (.slice x1 n1 c1) (.slice x2 n2 c2) ns op (.num p s) := by
 intro base w v tx hsh hta hwf hle hlim hin henv
 simp only [Shows] at hsh
 obtain ⟨n, hn, hf, hnum⟩ := hsh
 simp only [PT.tame] at hta
 simp only [PT.cnt] at hle hlim
 obtain ⟨m, hm⟩ : ∃ m : Nat, valueL s = m := ⟨(valueL s).toNat, by omega⟩
 have hno := Node_in' w (.slice x1 n1 c1) (.slice x2 n2 c2) ns op (henv.tree w (Below.refl _ _)) base n hn henv.len
 have hbl := henv.len
 have hb := hin.blk
 have y0 : w.cell? ⟨wb, 0, none⟩ = some (.slice x1 n1 c1) := by rw [blk_cell hb]; rfl
 have y1 : w.cell? ⟨wb, 1, none⟩ = some (.slice x2 n2 c2) := by rw [blk_cell hb]; rfl
 have hd4 := dec_len4 m (by omega)
 have hput := fun w' (h : WIn L wb w' (.slice x1 n1 c1) (.slice x2 n2 c2) v tx) => put_any wb w' _ _ v tx (decDigits m) h (by omega)
 have hlt := blk_lt hb
 have hit : ∀ w', Below w.heap.size w w' → Calls Tryz.prog 49 #[.int .i64 m] w' fun e w2 => e = .returned (.string (bs (decDigits m))) ∧ Below w'.heap.size w' w2 :=
  fun w' h => itoa_ok w' (henv.tab w' (h.mono (Nat.le_of_lt hlt))) m w' (by omega) (Below.refl _ _)
 have HIT : Hid _ := hit
 have HP : Hid _ := hput
 have HIN : Hid _ := hin
 unfold treeV nrVal at hno
 rw [hf, hnum, hm] at hno
 simp only [PT.ftx, PT.cnt]
 rw [show (((base + 1 : Nat) : Int) - 1) = (base : Int) from by omega, hm, Int.toNat_natCast]
 clear hb hin henv hput hn hit hta
 go_enter Tryz.func110, Tryz.ntmps110
 go_wp2_with (first
  | (go_at_call 94; refine hno.mono ?_; rintro _ w1 ⟨rfl, hb1⟩)
  | (go_at_call 49; refine (HIT.out _ (hb1.alloc hb1.size _)).mono ?_; rintro _ w2 ⟨rfl, hb2⟩)
  | (go_at_call 111; refine (HP.out _ (HIN.out.below ((hb1.alloc hb1.size _).trans (hb2.mono (hb1.alloc hb1.size _).size)))).mono ?_; rintro _ w3 ⟨v', rfl, hfr, hin'⟩))
 refine bodyPost_end (v := .tuple #[]) (by simp [results, Tryz.results110, go_sem]) rfl ⟨v', rfl, (WFr.of_below v ((hb1.alloc hb1.size _).trans (hb2.mono (hb1.alloc hb1.size _).size))).trans hfr, hin'⟩
def regsL (E fs : List Nat) (ns : List NR) : List Int := ns.map (fun n => if n.form = 4 then idxF fs (fst' E n.at_) else -1)
theorem regsL_snoc (E fs : List Nat) (l : List NR) (n : NR) : regsL E fs (l ++ [n]) = regsL E fs l ++ [if n.form = 4 then idxF fs (fst' E n.at_) else -1] := by unfold regsL; rw [List.map_append]; rfl
set_option maxRecDepth 100000 in
set_option maxHeartbeats 16000000 in
theorem regionsOf_any (w : World) (x1 : Option Addr) (n1 c1 : Nat) (x2 : Option Addr) (n2 c2 : Nat) (ns : List NR) (op : List Int) (hT : TreeIn w (.slice x1 n1 c1) (.slice x2 n2 c2) ns op) (ho : OpOk ns op) (hl : ns.length ≤ 9000) (hsm : ∀ n ∈ ns, n.small) (n0 : NR) (h0 : ns[ns.length - 1]? = some n0) (hB : n0.beh ≤ 9000) (hat : ∀ n ∈ ns, n.at_ < n0.beh) (hsz : SzOk [] (ns.map atR)) (E fs : List Nat) (hE : E = shE [] (List.range n0.beh) ns) (hfs : fs = firstsL E (opNs ns op)) :
  Calls Tryz.prog 65 #[treeV (.slice x1 n1 c1) (.slice x2 n2 c2)] w fun e w' => ∃ rv, e = .returned (.tuple #[rv, .int .i64 fs.length]) ∧ w'.ownsRow w.heap.size 3 1 rv ns.length (intVs (regsL E fs ns)) ∧ Below w.heap.size w w' := by
 have hEl : E.length = n0.beh := by rw [hE, shE_len, List.length_range]
 have hsh := fun (W : World) (hb : Below w.heap.size w W) => sharingOf_any W x1 n1 c1 x2 n2 c2 ns op (hT.below hb) hl hsm n0 h0 hB hat hsz
 rw [← hE, ← hEl] at hsh
 have hfi := fun (W : World) (hb : Below w.heap.size w W) (sb : Nat) (ev : Value) (hc : W.cell? ⟨sb, 2, none⟩ = some ev) (hr : W.ownsRow 0 3 1 ev E.length (natVs E)) => firsts_any W sb ev _ _ E ns op (hT.below hb) ho hl hc hr (by omega) (fun n hn => by have := hat n hn; omega)
 rw [← hfs] at hfi
 have hfl : fs.length ≤ 9000 := by have := firstsL_len E (opNs ns op); rw [opNs_len, ho.1] at this; rw [hfs]; omega
 have hlen := fun (w' : World) (hb : Below w.heap.size w w') => Len_any w' _ _ ns op (hT.below hb)
 have hnod := fun (w' : World) (hb : Below w.heap.size w w') (k : Nat) (n : NR) (hk : ns[k]? = some n) => Node_in' w' _ _ ns op (hT.below hb) k n hk hl
 obtain ⟨i0, hi, hz0, hz1, hz2⟩ := info_parts Tryz.infoInt
 have HI : Hid _ := hi
 have HZ0 : Hid _ := hz0
 have HZ1 : Hid _ := hz1
 have HZ2 : Hid _ := hz2
 obtain ⟨m, hm⟩ : ∃ m, m = ns.length := ⟨_, rfl⟩
 have HM : Hid _ := hm
 rw [← hm] at hl hlen ⊢
 have hE9 : E.length ≤ 9000 := by omega
 have hat9 : ∀ n ∈ ns, n.at_ ≤ 9000 := fun n hn => by have := hat n hn; omega
 unfold treeV at hsh hfi hlen hnod
 unfold ptr at hfi
 unfold nrVal at hnod
 unfold treeV
 have HSH : Hid _ := hsh
 have HFI : Hid _ := hfi
 have HLEN : Hid _ := hlen
 have HNOD : Hid _ := hnod
 have HAT : Hid _ := hat9
 clear hi hz0 hz1 hz2 hsh hfi hlen hnod hT ho hsm h0 hsz hE hfs hat hm hEl hB hat9
 obtain ⟨WB, hWB⟩ : ∃ WB, WB = w.alloc (.cells #[.slice x1 n1 c1, .slice x2 n2 c2] 59) := ⟨_, rfl⟩
 have HBX : Hid (Below w.heap.size w WB) := (show Below w.heap.size w WB by rw [hWB]; exact belY_al (Below.refl _ _) _)
 have HBXC : Hid (∀ wr, Below WB.heap.size WB wr → wr.cell? ⟨w.heap.size, 0, none⟩ = some (.slice x1 n1 c1) ∧ wr.cell? ⟨w.heap.size, 1, none⟩ = some (.slice x2 n2 c2) ∧ w.heap.size < wr.heap.size) := by
  intro wr hb
  rw [hWB] at hb
  exact box_cells hb
 have HWB : Hid _ := hWB
 clear hWB
 go_enter Tryz.func65, Tryz.ntmps65
 go_wp2_with fail
 rw [← HWB.out]
 refine Calls.mono (HSH.out WB HBX.out) ?_
 rintro _ w1 ⟨pa, pn, pc, ta, tn, tc, ev, rfl, hb1, hr1, he1⟩
 obtain ⟨ea, ec, hev⟩ := slice_any hr1
 subst hev
 have hc1 := blk_new w1 (.cells #[.slice pa pn pc, .slice ta tn tc, .slice ea E.length ec] 186 (0, 0))
 have hal1 : Below w1.heap.size w1 (w1.alloc (.cells #[.slice pa pn pc, .slice ta tn tc, .slice ea E.length ec] 186)) := (Below.refl _ w1).alloc (Nat.le_refl _) _
 have hb1a : Below WB.heap.size WB (w1.alloc (.cells #[.slice pa pn pc, .slice ta tn tc, .slice ea E.length ec] 186)) := hb1.alloc hb1.size _
 have hr1a := owns_below hr1 hal1
 obtain ⟨b0, b1, bl⟩ := HBXC.out _ hb1a
 have hbw1 := HBX.out.trans (hb1a.mono HBX.out.size)
 have hfc := HFI.out _ hbw1 w1.heap.size _ (by rw [blk_cell hc1]; rfl) hr1a
 obtain ⟨c0, c1', c2'⟩ : w1.cell? ⟨w.heap.size, 0, none⟩ = some (.slice x1 n1 c1) ∧ w1.cell? ⟨w.heap.size, 1, none⟩ = some (.slice x2 n2 c2) ∧ w.heap.size < w1.heap.size := HBXC.out _ hb1
 have hnes := Nat.ne_of_lt c2'
 have HR1 : Hid _ := hr1a
 have HB1 : Hid _ := hb1a
 have HC1 : Hid _ := hc1
 clear hr1 hb1 he1 hal1 hb1a hc1 hr1a hbw1 HSH HFI b0 b1 bl
 go_wp2_with fail
 refine Calls.mono hfc ?_
 rintro _ w2 ⟨fv, rfl, hr2, hb2⟩
 have HB2 : Hid _ := HB1.out.trans (hb2.mono HB1.out.size)
 have HE2 : Hid _ := owns_below HR1.out hb2
 have HS2 : Hid _ := (hb2.block _ (blk_lt HC1.out)).trans HC1.out
 have HF2 : Hid _ := hr2
 have hw12 : w1.heap.size < w2.heap.size := by have := hb2.size; simp at this; omega
 have hwB2 := HB2.out.size
 clear hb2 hr2 hfc c0 c1' c2' hnes HB1 HC1 HR1
 have e2 : w2.cell? ⟨w1.heap.size, 2, none⟩ = some (.slice ea E.length ec) := by rw [blk_cell HS2.out]; rfl
 have he2 := HE2.out
 have hFST : ∀ wr, Below w2.heap.size w2 wr → ∀ p : Nat, p ≤ 10000 → Calls Tryz.prog 106 #[.pointer (some ⟨w1.heap.size, 0, none⟩), .int .i64 p] wr fun v w' => v = .returned (.int .i64 (fst' E p)) ∧ w' = wr := fun wr hb p hp => first_any wr w1.heap.size 0 (.slice ea E.length ec) E p ((hb.cell (p := ⟨w1.heap.size, 2, none⟩) hw12).trans e2) (owns_below he2 hb) hE9 hp
 have hIDX : ∀ wr, Below w2.heap.size w2 wr → ∀ x : Nat, Calls Tryz.prog 107 #[fv, .int .i64 x] wr fun v w' => v = .returned (.int .i64 (idxF fs x)) ∧ w' = wr := fun wr hb x => indexOf_any wr _ fv fs x (owns_below HF2.out hb) hfl
 obtain ⟨fa, fc, hfv⟩ := slice_any HF2.out
 rw [hfv] at hIDX
 have HFST : Hid _ := hFST
 have HIDX : Hid _ := hIDX
 clear hFST hIDX he2 e2
 subst hfv
 go_wp2
 go_loopw [6, 7, 8, 9, 10] (fun v6 i _ _ _ wr => ∃ (k : Nat), k ≤ m ∧ i = .int .i64 k ∧ wr.ownsRow w2.heap.size 3 1 v6 k (intVs (regsL E fs (ns.take k))) ∧ Below w2.heap.size w2 wr) (fun _ i _ _ _ _ => m - (intOf i).toNat)
 case atStart =>
  refine ⟨0, Nat.zero_le _, rfl, ⟨rfl, Or.inr ⟨w2.heap.size, 0, #[], rfl, Nat.le_refl _, ?_, Nat.le_refl _, by unfold maxLen; omega, rfl, rfl⟩⟩, (Below.refl _ w2).alloc (Nat.le_refl _) _⟩
  exact blk_new _ _
 case round =>
  obtain ⟨k, hk, rfl, hown, hbr⟩ := hrel
  have hbB := HB2.out.trans (hbr.mono hwB2)
  obtain ⟨b0, b1, bl⟩ := HBXC.out _ hbB
  have hbw := HBX.out.trans (hbB.mono HBX.out.size)
  have hln := HLEN.out _ hbw
  have hbrs := hbr.size
  by_cases hlt : k < m
  ·have hkl : k < ns.length := by have := HM.out; omega
   obtain ⟨n, hn⟩ : ∃ n, ns[k]? = some n := ⟨ns[k], List.getElem?_eq_getElem hkl⟩
   have hat := HAT.out n (List.mem_of_getElem? hn)
   have hsn := regsL_snoc E fs (ns.take k) n
   rw [← take_one ns k n hn] at hsn
   have HSN : Hid _ := hsn
   have HN : Hid _ := hn
   have HOWN : Hid _ := hown
   have HBR : Hid _ := hbr
   clear hn hsn hown hkl hbB hbw
   go_wp2_with fail
   refine hln.mono ?_
   rintro _ w3 ⟨rfl, hb3⟩
   have hbr3 := hbr.trans (hb3.mono hbrs)
   have hbB3 := HB2.out.trans (hbr3.mono hwB2)
   clear b0 b1 bl
   obtain ⟨b0, b1, bl⟩ := HBXC.out _ hbB3
   have hno := HNOD.out w3 (HBX.out.trans (hbB3.mono HBX.out.size)) k n HN.out
   have HB3 : Hid _ := hb3
   clear hbr3 hbB3 hb3 hln hbr
   go_wp2_with fail
   refine hno.mono ?_
   rintro _ w4 ⟨rfl, hb4⟩
   have hr4 : Below wr.heap.size wr w4 := HB3.out.trans (hb4.mono HB3.out.size)
   have hr5 : Below wr.heap.size wr (w4.alloc (nrO n)) := hr4.alloc hr4.size (nrO n)
   have hb5 : Below w2.heap.size w2 (w4.alloc (nrO n)) := HBR.out.trans (hr5.mono hbrs)
   have hfs5 := HFST.out _ hb5 n.at_ (by omega)
   have hid5 := HIDX.out _ hb5 (fst' E n.at_)
   have HO5 : Hid _ := owns_below HOWN.out hr5
   have HB5 : Hid _ := hb5
   have hs45 := hr4.size
   unfold nrO nrC at hfs5 hid5 HO5 HB5
   clear hb4 hr4 hr5 hb5 hno b0 b1 bl HB3
   by_cases h4 : n.form = 4
   case' pos =>
    have q4 : ((n.form : Int) == 4) = true := ibeq_true (b := 4) h4
    have hsn := HSN.out
    rw [if_pos h4] at hsn
    obtain ⟨RG, hRG⟩ : ∃ RG, RG = idxF fs (fst' E n.at_) := ⟨_, rfl⟩
    rw [← hRG] at hid5 hsn
    have HSN2 : Hid _ := hsn
    generalize fst' E n.at_ = ft at *
    clear hsn HSN h4 hRG
    go_wp2_with fail
    refine hfs5.mono ?_
    rintro _ _ ⟨rfl, rfl⟩
    go_wp2_with fail
    refine hid5.mono ?_
    rintro _ _ ⟨rfl, rfl⟩
    clear hfs5 hid5
   case' neg =>
    have q4 : ((n.form : Int) == 4) = false := ibeq_false (b := 4) h4
    have hsn := HSN.out
    rw [if_neg h4] at hsn
    obtain ⟨RG, hRG⟩ : ∃ RG : Int, RG = -1 := ⟨_, rfl⟩
    rw [← hRG] at hsn
    have HSN2 : Hid _ := hsn
    clear hsn HSN h4 hfs5 hid5
   all_goals
    obtain ⟨W5, hW5⟩ : ∃ W5, W5 = w4.alloc (.cells #[.int .i64 n.form, .int .i64 n.at_, .int .i64 n.beh, .int .i64 n.num, .string (bs n.word), .int .i64 n.region, .int .i64 n.source, .int .i64 n.p0, .int .i64 n.p1, .int .i64 n.p2] 160) := ⟨_, rfl⟩
    rw [← hW5] at HO5 HB5
    have hs5 : W5.heap.size = w4.heap.size + 1 := by rw [hW5]; simp
    have HB6 : Hid (Below w2.heap.size w2 (W5.alloc (.cells #[.int .i64 RG] 3))) := HB5.out.alloc HB5.out.size _
    have HO6 : Hid ((W5.alloc (.cells #[.int .i64 RG] 3)).ownsRow w2.heap.size 3 1 u6 k (intVs (regsL E fs (ns.take k)))) := owns_below HO5.out (belY_al (Below.refl _ _) _)
    have HC1 : Hid (∀ (j : Nat) (u : Value), ([.int .i64 RG] : List Value)[j]? = some u → (W5.alloc (.cells #[.int .i64 RG] 3)).cell? ((⟨w4.heap.size + 1, 0, none⟩ : Addr).add j) = some u) := by
     intro j u hj
     have hq := alloc_cell_at W5 [.int .i64 RG] 3 j
     rw [hs5] at hq
     rw [← hj, ← hq]; first | done | rfl
    have HC2 : Hid (∀ u ∈ ([.int .i64 RG] : List Value), u.oneCell' = true) := by intro v hv; simp only [List.mem_singleton] at hv; subst hv; rfl
    subst hW5
    have hw45 : w2.heap.size ≤ w4.heap.size + 1 := by have := HB5.out.size; simp at this; omega
    clear hs5
    try subst hRG
    go_wp2_with (at_builtin; go_must (refine wpList_append_own _ rfl (.tmp 34) (.tmp 36) 42 rfl w2.heap.size 3 i0 _ 1 8 Tryz.undInts HI.out HZ0.out HZ1.out HZ2.out rfl (by decide) u6 k (intVs (regsL E fs (ns.take k))) rfl HO6.out ⟨w4.heap.size + 1, 0, none⟩ 1 1 [.int .i64 _] rfl rfl HC1.out HC2.out ?c3 ?c4 ?c5 ?_))
    case c3 => unfold maxLen; omega
    case c4 => omega
    case c5 => first | omega | (simp; omega)
    intro v' w7 hown' hgrow hnil
    have HB7 : Hid (Below w2.heap.size w2 w7) := (HB6.out).grown hgrow HB6.out.size (fun b hb => (World.ownsRow.lt HO6.out b hb).1)
    have HO7 : Hid (w7.ownsRow w2.heap.size 3 1 v' (k + 1) (intVs (regsL E fs (ns.take (k + 1))))) := by
     show w7.ownsRow w2.heap.size 3 1 v' (k + 1) (intVs (regsL E fs (ns.take (k + 1))))
     rw [HSN2.out]
     unfold intVs at hown' ⊢
     rw [List.map_append]
     exact hown'
    clear hown' hgrow hnil
    go_wp2
    go_roundw
    case rel => exact ⟨k + 1, by omega, by go_num, HO7.out, HB7.out⟩
    case measure => simp [intOf]; omega
  ·have hkm : k = m := by omega
   have htk : ns.take k = ns := List.take_of_length_le (by have := HM.out; omega)
   rw [htk, hkm] at hown
   have HBB : Hid _ := hbw
   have HOWN : Hid _ := hown
   clear hbr hown hkm htk hbB
   go_wp2_with fail
   refine hln.mono ?_
   rintro _ w3 ⟨rfl, hb3⟩
   have HB1 : Hid _ := HBB.out.trans (hb3.mono HBB.out.size)
   have HO1 : Hid _ := owns_below HOWN.out hb3
   clear hb3 hln b0 b1 bl
   go_wp2
   refine bodyPost_ret (v := .tuple #[u6, .int .i64 fs.length]) (by simp [results, Tryz.results65, go_sem]) rfl ⟨_, rfl, ?_, HB1.out⟩
   exact owns_base HO1.out (fun k hk => by have := HBX.out.size; have := (World.ownsRow.lt HO1.out k hk).1; omega)
def newsL (T : List Ty) (ns : List NR) (n0 : NR) (c : Nat) : List Int := (List.range c).map fun r => aboutF T r (spanF T r ns 0 n0.beh n0.at_).1 (spanF T r ns 0 n0.beh n0.at_).2 ns 0
theorem newsL_snoc (T : List Ty) (ns : List NR) (n0 : NR) (c : Nat) : newsL T ns n0 (c + 1) = newsL T ns n0 c ++ [aboutF T c (spanF T c ns 0 n0.beh n0.at_).1 (spanF T c ns 0 n0.beh n0.at_).2 ns 0] := by
 unfold newsL; rw [List.range_succ, List.map_append]; rfl
set_option maxRecDepth 100000 in
set_option maxHeartbeats 16000000 in
theorem pnewsOf_any (w : World) (x1 : Option Addr) (n1 c1 : Nat) (x2 : Option Addr) (n2 c2 : Nat) (ns : List NR) (op : List Int) (hT : TreeIn w (.slice x1 n1 c1) (.slice x2 n2 c2) ns op) (hl : ns.length ≤ 9000) (hsm : ∀ n ∈ ns, n.small) (n0 : NR) (h0 : ns[ns.length - 1]? = some n0) (rv : Value) (regs : List Int) (hrv : w.ownsRow 0 3 1 rv regs.length (intVs regs)) (hrl : regs.length = ns.length) (c : Nat) (hc : c ≤ 9000)
  (ns2 : List NR) (h2 : ∀ (k : Nat) n r, ns[k]? = some n → regs[k]? = some r → ns2.drop k = setR n r :: ns2.drop (k + 1) ∧ (n.form = 4 → 0 ≤ r)) (h2l : ns2.length = ns.length) (hsz : SzOk [] ns2) :
  Calls Tryz.prog 66 #[treeV (.slice x1 n1 c1) (.slice x2 n2 c2), rv, .int .i64 c] w fun e w' => ∃ av, e = .returned av ∧ w'.ownsRow w.heap.size 3 1 av c (intVs (newsL (tyRun [] ns2) ns n0 c)) ∧ Below w.heap.size w w' := by
 obtain ⟨i0, hi, hz0, hz1, hz2⟩ := info_parts Tryz.infoInt
 have HI : Hid _ := hi
 have HZ0 : Hid _ := hz0
 have HZ1 : Hid _ := hz1
 have HZ2 : Hid _ := hz2
 have hlen := fun (w' : World) (hb : Below w.heap.size w w') => Len_any w' _ _ ns op (hT.below hb)
 have hnod := fun (w' : World) (hb : Below w.heap.size w w') (k : Nat) (n : NR) (hk : ns[k]? = some n) => Node_in' w' _ _ ns op (hT.below hb) k n hk hl
 obtain ⟨m, hm⟩ : ∃ m, m = ns.length := ⟨_, rfl⟩
 have hm1 : 1 ≤ m := by have := (List.getElem?_eq_some_iff.1 h0).1; omega
 rw [← hm] at hrl hlen h2l
 rw [hrl] at hrv
 obtain ⟨rg, rcap, hrv2⟩ := slice_of hrv (by omega)
 subst hrv2
 have hrgl : rg < w.heap.size := (hrv.lt rg rfl).2
 have hrc : ∀ (k : Nat) (r : Int), regs[k]? = some r → w.cell? ⟨rg, k, none⟩ = some (.int .i64 r) := fun k r hk => by
  rw [hrv.cellAt k (by have := (List.getElem?_eq_some_iff.1 hk).1; omega)]; unfold intVs; rw [List.getElem?_map, hk]; rfl
 have hTB := fun (w' : World) (hb : Below w.heap.size w w') => hT.below hb
 have HM : Hid _ := hm
 have HRC : Hid _ := hrc
 have HRL : Hid _ := hrl
 have HTB : Hid _ := hTB
 have HSM : Hid _ := hsm
 have HH2 : Hid _ := h2
 have H2L : Hid _ := h2l
 have HSZ : Hid _ := hsz
 have HH0 : Hid _ := h0
 unfold treeV at hlen hnod
 unfold nrVal at hnod
 have HLEN : Hid _ := hlen
 have HNOD : Hid _ := hnod
 have hl9 : m ≤ 9000 := by omega
 clear hi hz0 hz1 hz2 hlen hnod hm hrl hrv hrc hT hTB hsm h2 h2l hsz h0
 obtain ⟨WB, hWB⟩ : ∃ WB, WB = w.alloc (.cells #[.slice x1 n1 c1, .slice x2 n2 c2] 59) := ⟨_, rfl⟩
 have HBX : Hid (Below w.heap.size w WB) := (show Below w.heap.size w WB by rw [hWB]; exact belY_al (Below.refl _ _) _)
 have HBXC : Hid (∀ wr, Below WB.heap.size WB wr → wr.cell? ⟨w.heap.size, 0, none⟩ = some (.slice x1 n1 c1) ∧ wr.cell? ⟨w.heap.size, 1, none⟩ = some (.slice x2 n2 c2) ∧ w.heap.size < wr.heap.size) := by
  intro wr hb
  rw [hWB] at hb
  exact box_cells hb
 have HC0 : Hid (CInO WB.heap.size 2 #[.slice x1 n1 c1, .slice x2 n2 c2, .slice none 0 0, .slice none 0 0] 191 (WB.alloc (.cells #[.slice x1 n1 c1, .slice x2 n2 c2, .slice none 0 0, .slice none 0 0] 191)) (.slice none 0 0) (.slice none 0 0) [] []) := ⟨blk_new _ _, rfl, rfl, World.ownsRow_nil _ _ _ _, World.ownsRow_nil _ _ _ _, by simp [Value.ownBlock], by simp [Value.ownBlock], fun g hg => by simp [Value.ownBlock] at hg⟩
 have hws : w.heap.size ≤ WB.heap.size := HBX.out.size
 have HWB : Hid _ := hWB
 have HWS : Hid (w.heap.size + 1 = WB.heap.size) := (show w.heap.size + 1 = WB.heap.size by rw [hWB]; simp)
 clear hWB
 unfold treeV
 go_enter Tryz.func66, Tryz.ntmps66
 go_wp2
 rw [← HWB.out, HWS.out]
 go_loopw [8, 9] (fun i _ wr => ∃ (k : Nat) (pv tv : Value) (tb : List TP) (D : List Ty) (K : List Nat) (T : List Ty), k ≤ m ∧ i = .int .i64 k ∧ CInO WB.heap.size 2 #[.slice x1 n1 c1, .slice x2 n2 c2, pv, tv] 191 wr pv tv tb K ∧ Rel tb D K T ∧ K.length = k ∧ tb.length ≤ k ∧ Hid (tyRun [] ns2 = tyRun T (ns2.drop k)) ∧ SzOk T (ns2.drop k) ∧ Below WB.heap.size WB wr ∧ WB.heap.size < wr.heap.size ∧ (∀ g, pv.ownBlock = some g → WB.heap.size ≤ g) ∧ (∀ g, tv.ownBlock = some g → WB.heap.size ≤ g)) (fun i _ _ => m - (intOf i).toNat)
 case atStart => exact ⟨0, _, _, [], [], [], [], Nat.zero_le _, rfl, HC0.out, rel0, rfl, Nat.le_refl _, (rfl : tyRun [] ns2 = tyRun [] (ns2.drop 0)), HSZ.out, (Below.refl _ WB).alloc (Nat.le_refl _) _, by simp, by simp [Value.ownBlock], by simp [Value.ownBlock]⟩
 case round =>
  obtain ⟨k, pv, tv, tb, D, K, T, hk, rfl, hC, hRel, hKl, htl, HF, hso, hbr, hbs, hpb, htb⟩ := hrel
  have hbw2 : Below w.heap.size w wr := HBX.out.trans (hbr.mono hws)
  obtain ⟨b0, b1, bl⟩ := HBXC.out _ hbr
  have hln := HLEN.out wr hbw2
  have hrs := hbr.size
  by_cases hlt : k < m
  ·have hkl : k < ns.length := by have := HM.out; omega
   obtain ⟨n, hn⟩ : ∃ n, ns[k]? = some n := ⟨ns[k], List.getElem?_eq_getElem hkl⟩
   obtain ⟨r, hr⟩ : ∃ r, regs[k]? = some r := ⟨regs[k]'(by have := HRL.out; omega), List.getElem?_eq_getElem _⟩
   obtain ⟨hdr, hr4⟩ := HH2.out k n r hn hr
   have hnsm := HSM.out n (List.mem_of_getElem? hn)
   have hst := HF.out
   rw [hdr] at hst hso
   simp only [tyRun] at hst
   simp only [SzOk] at hso
   obtain ⟨D', hRel0⟩ := stepR hRel (setR n r) hso.1
   have hRel' : Rel (tyK tb K n r.toNat).2 D' (K ++ [(tyK tb K n r.toNat).1]) (T ++ [tyR T (setR n r)]) := hRel0
   have hok : TOk tb K n := ⟨by omega, by omega, fun i => by have := (hRel.known i).2.1; omega, fun j => by have := hRel.sz_le j; omega, ⟨by have := hnsm.1; omega, by have := hnsm.1; omega⟩, ⟨by have := hnsm.2.1; omega, by have := hnsm.2.1; omega⟩, ⟨by have := hnsm.2.2.1; omega, by have := hnsm.2.2.1; omega⟩, ⟨by have := hnsm.2.2.2; omega, by have := hnsm.2.2.2; omega⟩⟩
   have htl2 : (tyK tb K n r.toNat).2.length ≤ k + 1 := by
    have hpl := pairF_len tb r.toNat (knownK K n.p0) (knownK K n.p1)
    unfold tyK
    repeat' split
    all_goals first | (simp only; omega) | omega
   have hadd := fun (w' : World) (hb : Below wr.heap.size wr w') => AddO_any w' WB.heap.size 2 _ _ pv tv tb K n r r.toNat (fun h => by have := hr4 h; omega) (hC.below hb) hok
   have hcr : ∀ w', Below w.heap.size w w' → w'.cell? ⟨rg, k, none⟩ = some (.int .i64 r) := fun w' hb => by rw [hb.cell (p := ⟨rg, k, none⟩) hrgl]; exact HRC.out k r hr
   have HADD : Hid _ := hadd
   have HCR : Hid _ := hcr
   have HST : Hid _ := hst
   have HSO : Hid _ := hso.2
   have HRL2 : Hid _ := hRel'
   have HN : Hid _ := hn
   have HBR : Hid _ := hbr
   have HC : Hid _ := hC
   have HPB : Hid _ := hpb
   have HTBB : Hid _ := htb
   have HKL : Hid _ := hKl
   have HTL : Hid _ := htl2
   unfold nrVal at HADD
   clear hn hr hdr hr4 hnsm hst hso hRel0 hRel' hok htl2 hadd hcr HF hC hRel hKl htl hbr hpb htb hkl hbw2
   generalize tyK tb K n r.toNat = X at *
   generalize T ++ [tyR T (setR n r)] = T' at *
   go_wp2_with fail
   refine hln.mono ?_
   rintro _ w1 ⟨rfl, hb1⟩
   have hbr1 := HBR.out.trans (hb1.mono hrs)
   clear b0 b1 bl
   obtain ⟨b0, b1, bl⟩ := HBXC.out _ hbr1
   have hno := HNOD.out w1 (HBX.out.trans (hbr1.mono hws)) k n HN.out
   have HB1 : Hid _ := hb1
   clear hb1 hbr1 hln
   go_wp2_with fail
   refine hno.mono ?_
   rintro _ w2 ⟨rfl, hb2⟩
   have hr2 : Below wr.heap.size wr w2 := HB1.out.trans (hb2.mono HB1.out.size)
   have hr3 := hr2.alloc hr2.size (nrO n)
   have hcr := HCR.out _ (HBX.out.trans ((HBR.out.trans (hr3.mono hrs)).mono hws))
   have hnb := blk_new w2 (nrO n)
   obtain ⟨d0, d1, d2, d3, d4, d5, d6, d7, d8, d9⟩ := nr_cells10 hnb
   have hnl := blk_lt hnb
   obtain ⟨W3, hW3⟩ : ∃ W3, W3 = w2.alloc (nrO n) := ⟨_, rfl⟩
   have hrgW : rg < W3.heap.size := by rw [hW3]; have := hr2.size; have := HBR.out.size; simp; omega
   rw [← hW3] at hr3 hcr hnb hnl d0 d1 d2 d3 d4 d5 d6 d7 d8 d9
   have HR3 : Hid _ := hr3
   have HW3 : Hid _ := hW3
   unfold nrO nrC at HW3
   clear hb2 hr2 hr3 hno b0 b1 bl hnb hW3
   go_upto_region 6 with fail
   rw [← HW3.out]
   go_region_law (refine stepY_call rfl 95 #[.pointer (some ⟨WB.heap.size, 2, none⟩), .agg #[.int .i64 n.form, .int .i64 n.at_, .int .i64 n.beh, .int .i64 n.num, .string (bs n.word), .int .i64 n.region, .int .i64 n.source, .int .i64 n.p0, .int .i64 n.p1, .int .i64 n.p2], .int .i64 r] ?_ ?_
                  ·go_simp
                  refine Calls.mono (HADD.out _ ?_) ?_
                  ·repeat (first | with_reducible exact HR3.out | with_reducible refine belY_d ?_ | with_reducible refine belY_dn ?_)
                  rintro e w4 ⟨rfl, pv4, tv4, hfr4, hC4⟩
                  refine ⟨_, rfl, ?_⟩)
   all_goals
    have hB3 : Below WB.heap.size WB W3 := HBR.out.trans (HR3.out.mono hrs)
    have hW3s : WB.heap.size ≤ W3.heap.size := hB3.size
    obtain ⟨g1, g2, g3⟩ := hfr4.toBelow (B := WB.heap.size) (w0 := WB) (by repeat (first | with_reducible exact hB3 | with_reducible refine belY_d ?_ | with_reducible refine belY_dn ?_)) (Nat.le_refl _) (by exact hW3s) HPB.out HTBB.out
    have hw4s := hfr4.size
    have hw4b : WB.heap.size < w4.heap.size := by have := blk_lt hC4.y; exact this
    have HC4 : Hid (CInO WB.heap.size 2 #[.slice x1 n1 c1, .slice x2 n2 c2, pv4, tv4] 191 w4 pv4 tv4 X.2 (K ++ [X.1])) := hC4
    have HG1 : Hid _ := g1
    have HG2 : Hid _ := g2
    have HG3 : Hid _ := g3
    clear hfr4 hC4 g1 g2 g3 hB3 hcr d0 d1 d2 d3 d4 d5 d6 d7 d8 d9 hnl hw4s
    go_wp2
    go_roundw
    case rel => exact ⟨k + 1, pv4, tv4, X.2, D', _, T', by omega, by go_num, HC4.out, HRL2.out, by simp [HKL.out], HTL.out, HST.out, HSO.out, HG1.out, hw4b, HG2.out, HG3.out⟩
    case measure => simp [intOf]; omega
  ·have HTT : Hid (tyRun [] ns2 = T) := by
    have hd : ns2.drop k = [] := List.drop_eq_nil_of_le (by have := H2L.out; omega)
    have hst := HF.out
    rw [hd] at hst
    exact hst
   have HC : Hid _ := hC
   have HREL : Hid _ := hRel
   have HBR : Hid _ := hbr
   have hbw1 := hbw2
   clear hC hRel HF hso hbr hpb htb
   go_wp2_with fail
   refine hln.mono ?_
   rintro _ w1 ⟨rfl, hb1⟩
   have hbr1 : Below WB.heap.size WB w1 := HBR.out.trans (hb1.mono hrs)
   have hC1 := HC.out.below hb1
   have hbw3 : Below w.heap.size w w1 := HBX.out.trans (hbr1.mono hws)
   have hT1 := HTB.out w1 hbw3
   have hab : ∀ wx, Below w1.heap.size w1 wx → ∀ r : Nat, Calls Tryz.prog 108 #[.pointer (some ⟨WB.heap.size, 0, none⟩), .int .i64 r] wx fun v w' => v = .returned (.int .i64 (aboutF T r (spanF T r ns 0 n0.beh n0.at_).1 (spanF T r ns 0 n0.beh n0.at_).2 ns 0)) ∧ Below wx.heap.size wx w' := fun wx hb r => about_any WB.heap.size wx x1 n1 c1 x2 n2 c2 pv tv tb K ns op D T ⟨hC1.below hb, hT1.below hb⟩ HREL.out (by omega) (by omega) (by have := HM.out; omega) r n0 HH0.out
   have HAB : Hid _ := hab
   have HBW3 : Hid _ := hbw3
   have hw1s := hbw3.size
   clear hb1 hbr1 hC1 hT1 hab hbw3 hln b0 b1 bl hbw2 HC HREL hKl htl hbw1
   go_wp2
   go_loopw [10, 11, 12] (fun v10 i _ wx => ∃ (j : Nat), j ≤ c ∧ i = .int .i64 j ∧ wx.ownsRow w1.heap.size 3 1 v10 j (intVs (newsL T ns n0 j)) ∧ Below w1.heap.size w1 wx) (fun _ i _ _ => c - (intOf i).toNat)
   case atStart =>
    refine ⟨0, Nat.zero_le _, rfl, ⟨rfl, Or.inr ⟨w1.heap.size, 0, #[], rfl, Nat.le_refl _, ?_, Nat.le_refl _, by unfold maxLen; omega, rfl, rfl⟩⟩, (Below.refl _ w1).alloc (Nat.le_refl _) _⟩
    exact blk_new _ _
   case round =>
    obtain ⟨j, hj, rfl, hown, hbx⟩ := hrel
    have hxs := hbx.size
    by_cases hlt2 : j < c
    ·have hac := HAB.out _ hbx j
     have hsn := newsL_snoc T ns n0 j
     generalize aboutF T j (spanF T j ns 0 n0.beh n0.at_).1 (spanF T j ns 0 n0.beh n0.at_).2 ns 0 = RG at *
     have HSN : Hid _ := hsn
     have HOWN : Hid _ := hown
     have HBX2 : Hid _ := hbx
     clear hsn hown hbx
     go_wp2_with fail
     refine hac.mono ?_
     rintro _ w5 ⟨rfl, hb5⟩
     have hB5 : Below w1.heap.size w1 w5 := HBX2.out.trans (hb5.mono hxs)
     have HB6 : Hid (Below w1.heap.size w1 (w5.alloc (.cells #[.int .i64 RG] 3))) := hB5.alloc hB5.size _
     have HO6 : Hid ((w5.alloc (.cells #[.int .i64 RG] 3)).ownsRow w1.heap.size 3 1 u10 j (intVs (newsL T ns n0 j))) := owns_below (owns_below HOWN.out hb5) (belY_al (Below.refl _ _) _)
     have HC1 : Hid (∀ (i : Nat) (u : Value), ([.int .i64 RG] : List Value)[i]? = some u → (w5.alloc (.cells #[.int .i64 RG] 3)).cell? ((⟨w5.heap.size, 0, none⟩ : Addr).add i) = some u) := by
      intro i u hi
      have hq := alloc_cell_at w5 [.int .i64 RG] 3 i
      rw [← hi, ← hq]; first | done | rfl
     have HC2 : Hid (∀ u ∈ ([.int .i64 RG] : List Value), u.oneCell' = true) := by intro v hv; simp only [List.mem_singleton] at hv; subst hv; rfl
     have hw5 := hB5.size
     clear hac hb5 hB5
     go_wp2_with (at_builtin; go_must (refine wpList_append_own _ rfl (.tmp 45) (.tmp 47) 42 rfl w1.heap.size 3 i0 _ 1 8 Tryz.undInts HI.out HZ0.out HZ1.out HZ2.out rfl (by decide) u10 j (intVs (newsL T ns n0 j)) rfl HO6.out ⟨w5.heap.size, 0, none⟩ 1 1 [.int .i64 RG] rfl rfl HC1.out HC2.out ?c3 ?c4 ?c5 ?_))
     case c3 => unfold maxLen; omega
     case c4 => omega
     case c5 => first | omega | (simp; omega)
     intro v' w7 hown' hgrow hnil
     have HB7 : Hid (Below w1.heap.size w1 w7) := (HB6.out).grown hgrow HB6.out.size (fun b hb => (World.ownsRow.lt HO6.out b hb).1)
     have HO7 : Hid (w7.ownsRow w1.heap.size 3 1 v' (j + 1) (intVs (newsL T ns n0 (j + 1)))) := by
      show w7.ownsRow w1.heap.size 3 1 v' (j + 1) (intVs (newsL T ns n0 (j + 1)))
      rw [HSN.out]
      unfold intVs at hown' ⊢
      rw [List.map_append]
      exact hown'
     clear hown' hgrow hnil
     go_wp2
     go_roundw
     case rel => exact ⟨j + 1, by omega, by go_num, HO7.out, HB7.out⟩
     case measure => simp [intOf]; omega
    ·have hjc : j = c := by omega
     subst hjc
     have HOWN : Hid _ := hown
     have HBX2 : Hid _ := hbx
     clear hown hbx
     go_wp2
     go_ret
     refine ⟨_, rfl, ?_, HBW3.out.trans (HBX2.out.mono hw1s)⟩
     rw [HTT.out]
     exact owns_base HOWN.out (fun k hk => by have := (World.ownsRow.lt HOWN.out k hk).1; omega)
set_option maxRecDepth 100000 in
set_option maxHeartbeats 2000000 in
theorem fm_new (L : Ly) (wb : Nat) (x1 : Option Addr) (n1 c1 : Nat) (x2 : Option Addr) (n2 c2 : Nat) (ns : List NR) (op : List Int) (p : Nat) (nm rg : List UInt8) (x : PT) (ih : ExpOk L wb (.slice x1 n1 c1) (.slice x2 n2 c2) ns op x) : FmOk L wb (.slice x1 n1 c1) (.slice x2 n2 c2) ns op (.node p .new nm rg [x]) := by
 intro base w v tx hsh hta hwf hle hlim hin henv
 simp only [Shows, ShowsL] at hsh
 obtain ⟨⟨n, hn, hf', hwd, hp0, hp1, hp2⟩, hx, _⟩ := hsh
 have hf : n.form = 12 := hf'
 simp only [PT.tame, tameL] at hta
 simp only [PT.wf, wfL] at hwf
 simp only [PT.cnt, cntL, Nat.add_zero] at hle hlim hn
 have hcx := cnt_pos' x
 obtain ⟨M, hM⟩ : ∃ M : Nat, (((base + x.cnt : Nat) : Int) - 1) = (M : Int) := ⟨base + x.cnt - 1, by omega⟩
 have hMb : M ≤ 9000 := by have := henv.len; omega
 have hp0' : n.p0 = (M : Int) := by rw [hp0, ← hM]; rfl
 have hno := Node_in' w (.slice x1 n1 c1) (.slice x2 n2 c2) ns op (henv.tree w (Below.refl _ _)) (base + x.cnt) n hn henv.len
 have hbl := henv.len
 have hb := hin.blk
 have y0 : w.cell? ⟨wb, 0, none⟩ = some (.slice x1 n1 c1) := by rw [blk_cell hb]; rfl
 have y1 : w.cell? ⟨wb, 1, none⟩ = some (.slice x2 n2 c2) := by rw [blk_cell hb]; rfl
 have hcall := fun w' (h1 : WIn L wb w' (.slice x1 n1 c1) (.slice x2 n2 c2) v tx) (h2 : WEnv L wb w' (.slice x1 n1 c1) (.slice x2 n2 c2) ns op) => ih base w' v tx hx hta.2.1 hwf.2.1 (by omega) (by omega) h1 h2
 rw [hM] at hcall
 have HC : Hid _ := hcall
 have HIN : Hid _ := hin
 have HENV : Hid _ := henv
 have hlt := blk_lt hb
 unfold treeV nrVal at hno
 rw [hf, hp0'] at hno
 generalize n.p1 = m1 at hno
 generalize n.p2 = m2 at hno
 generalize n.region = m3 at hno
 generalize n.source = m4 at hno
 generalize n.num = m5 at hno
 have e1 : PT.ftx L.regs L.news (.node p .new nm rg [x]) base = x.wtx L.regs L.news base := by simp [PT.ftx, wtxL, PT.wtx]
 rw [e1]
 simp only [PT.cnt, cntL, Nat.add_zero]
 rw [show (((base + (1 + x.cnt) : Nat) : Int) - 1) = ((base + x.cnt : Nat) : Int) from by omega]
 generalize base + x.cnt = K at *
 clear hb hin henv hcall hn hf' hf hwd hp0 hp1 hp2 hx hp0' ih hta hwf hlim e1
 go_enter Tryz.func110, Tryz.ntmps110
 go_wp2_with fail
 refine hno.mono ?_
 rintro _ w1 ⟨rfl, hb1⟩
 have hs1 := hb1.size
 go_wp2_with fail
 have hB := hb1.alloc hb1.size (.cells #[.int .i64 12, .int .i64 n.at_, .int .i64 n.beh, .int .i64 m5, .string (bs n.word), .int .i64 m3, .int .i64 m4, .int .i64 M, .int .i64 m1, .int .i64 m2] 160)
 refine (HC.out _ (HIN.out.below hB) (HENV.out.on (hB.mono (Nat.le_of_lt hlt)))).mono ?_
 rintro _ w3 ⟨v', rfl, hfr, hin'⟩
 go_wp2_with fail
 refine bodyPost_end (v := .tuple #[]) (by simp [results, Tryz.results110, go_sem]) rfl ⟨v', rfl, (WFr.of_below v hB).trans hfr, hin'⟩
end Go.Proofs.YtpicaknklgccoaaGreatDoor
