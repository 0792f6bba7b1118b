import Derived.Test.YtpicaknklgccoaaGreatDoorP30
namespace Go.Proofs.YtpicaknklgccoaaGreatDoor
open Go.RowKit
structure Box (wb B : Nat) (w : World) (v : Value) (n : NR) : Prop where
 b : w.heap[B]? = some (nrO n)
 ne : B ≠ wb
 v : v.ownBlock ≠ some B
theorem Box.keep {wb B : Nat} {w w' : World} {v v' : Value} {n : NR} (h : Box wb B w v n) (hf : WFr wb w w' v v') : Box wb B w' v' n :=
 have hk := blk_lt h.b
 ⟨by rw [hf.blk B hk h.ne h.v]; exact h.b, h.ne, fun e => by
  rcases hf.o B e with e | e
  ·exact h.v e
  ·omega⟩
theorem Box.new {L : Ly} {wb : Nat} {w : World} {nv ov v : Value} {tx : List UInt8} (h : WIn L wb w nv ov v tx) (n : NR) : Box wb w.heap.size (w.alloc (nrO n)) v n :=
 ⟨blk_new _ _, by have := blk_lt h.blk; omega, fun e => by have := (h.row.lt _ e).2; omega⟩
theorem part_at : ∀ (kids : List PT) (base j : Nat) (x : PT), kids[j]? = some x → (partsL kids base).getD j (-1) = (((base + cntL (kids.take j) + x.cnt : Nat) : Int) - 1)
 | [], _, _, _, h => by simp at h
 | t :: r, base, 0, x, h => by
  simp only [List.getElem?_cons_zero, Option.some.injEq] at h
  subst h
  simp [partsL, cntL]
 | t :: r, base, j + 1, x, h => by
  simp only [List.getElem?_cons_succ] at h
  simp only [partsL, List.getD_cons_succ, List.take_succ_cons, cntL]
  rw [part_at r (base + t.cnt) j x h]
  omega
theorem part_none : ∀ (kids : List PT) (base j : Nat), kids.length ≤ j → (partsL kids base).getD j (-1) = -1
 | [], _, _, _ => by simp [partsL]
 | t :: r, base, 0, h => by simp at h
 | t :: r, base, j + 1, h => by
  simp only [List.length_cons] at h
  simp only [partsL, List.getD_cons_succ]
  exact part_none r (base + t.cnt) j (by omega)
theorem shows_at {ns : List NR} : ∀ (kids : List PT) (base j : Nat) (x : PT), ShowsL ns kids base → kids[j]? = some x → Shows ns x (base + cntL (kids.take j))
 | [], _, _, _, _, h => by simp at h
 | t :: r, base, 0, x, hs, h => by
  simp only [List.getElem?_cons_zero, Option.some.injEq] at h
  subst h
  simp only [ShowsL] at hs
  simpa [cntL] using hs.1
 | t :: r, base, j + 1, x, hs, h => by
  simp only [List.getElem?_cons_succ] at h
  simp only [ShowsL] at hs
  have := shows_at r (base + t.cnt) j x hs.2 h
  simpa [List.take_succ_cons, cntL, Nat.add_assoc] using this
theorem take_kid (kids : List PT) (j : Nat) (x : PT) (h : kids[j]? = some x) : cntL (kids.take j) + x.cnt ≤ cntL kids := by
 have h1 := cntL_take kids (j + 1)
 rw [List.take_add_one, h] at h1
 simp only [Option.toList_some] at h1
 rw [cntL_snoc] at h1
 omega
theorem box_part {w : World} {B : Nat} {n : NR} {l : List Int} (h : w.heap[B]? = some (nrO n)) (h0 : n.p0 = l.getD 0 (-1)) (h1 : n.p1 = l.getD 1 (-1)) (h2 : n.p2 = l.getD 2 (-1)) (j : Nat) (hj : j ≤ 2) : w.cell? ⟨B, 7 + j, none⟩ = some (.int .i64 (l.getD j (-1))) := by
 obtain ⟨_, _, _, _, _, _, _, c7, c8, c9⟩ := nr_cells10 h
 rcases (show j = 0 ∨ j = 1 ∨ j = 2 by omega) with rfl | rfl | rfl
 ·rw [← h0]; exact c7
 ·rw [← h1]; exact c8
 ·rw [← h2]; exact c9
theorem piece_yes (k : Kw) (nm : List UInt8) (j : Nat) (x : List UInt8) (h : behK k = (j : Int)) : pieceT k nm j x = [32] ++ nm ++ [32] ++ x := by
 have : (k = .let_ ∧ j = 0) ∨ (k = .loop ∧ j = 1) := by
  cases k <;> simp [behK] at h ⊢ <;> omega
 unfold pieceT; rw [if_pos this]; simp
theorem piece_no (k : Kw) (nm : List UInt8) (j : Nat) (x : List UInt8) (h : behK k ≠ (j : Int)) : pieceT k nm j x = [32] ++ x := by
 have : ¬ ((k = .let_ ∧ j = 0) ∨ (k = .loop ∧ j = 1)) := by
  rintro (⟨rfl, rfl⟩ | ⟨rfl, rfl⟩) <;> simp [behK] at h
 unfold pieceT; rw [if_neg this]; simp
set_option maxRecDepth 100000 in
set_option maxHeartbeats 8000000 in
theorem wbracket_any (L : Ly) (wb : Nat) (x1 : Option Addr) (n1 c1 : Nat) (x2 : Option Addr) (n2 c2 : Nat) (ns : List NR) (op : List Int) (k : Kw) (nm : List UInt8) (kids : List PT) (hkn : k ≠ .new) (har : kids.length ≤ 3) (ih : ∀ x ∈ kids, ExpOk L wb (.slice x1 n1 c1) (.slice x2 n2 c2) ns op x)
  (base : Nat) (w : World) (v : Value) (tx : List UInt8) (n : NR) (hf : n.form = formK k) (hwd : n.word = nm) (hp0 : n.p0 = (partsL kids base).getD 0 (-1)) (hp1 : n.p1 = (partsL kids base).getD 1 (-1)) (hp2 : n.p2 = (partsL kids base).getD 2 (-1))
  (hsh : ShowsL ns kids base) (hnl : nm.length ≤ 9000) (hta : tameL kids) (hwf : wfL kids) (hle : base + cntL kids ≤ ns.length) (hlim : tx.length + 22000 * (1 + cntL kids) ≤ 200001650) (I : Nat) (hrg : -1 ≤ rgV L.regs I) (hin : WIn L wb w (.slice x1 n1 c1) (.slice x2 n2 c2) v tx) (henv : WEnv L wb w (.slice x1 n1 c1) (.slice x2 n2 c2) ns op) :
  Calls Tryz.prog 142 #[.pointer (some ⟨wb, 0, none⟩), nrVal n, .int .i64 (rgV L.regs I)] w fun e w' => ∃ v', e = .returned (.tuple #[]) ∧ WFr wb w w' v v' ∧ WIn L wb w' (.slice x1 n1 c1) (.slice x2 n2 c2) v' (tx ++ (accW L.regs L.news k nm kids base I kids.length ++ [41])) := by
 have hlt := blk_lt hin.blk
 have hnsl := henv.len
 have hput := fun w' v' tx' s (h : WIn L wb w' (.slice x1 n1 c1) (.slice x2 n2 c2) v' tx') (hl : tx'.length + s.length ≤ 400000000) => put_any wb w' _ _ v' tx' s h hl
 have hp40 : ∀ w' v' tx' (h : WIn L wb w' (.slice x1 n1 c1) (.slice x2 n2 c2) v' tx') (hl : tx'.length ≤ 390000000), Calls Tryz.prog 111 #[.pointer (some ⟨wb, 0, none⟩), .string ⟨#[40]⟩] w' fun e w2 => ∃ v2, e = .returned (.tuple #[]) ∧ WFr wb w' w2 v' v2 ∧ WIn L wb w2 (.slice x1 n1 c1) (.slice x2 n2 c2) v2 (tx' ++ [40]) := fun w' v' tx' h hl => hput w' v' tx' [40] h (by simp; omega)
 have hp41 : ∀ w' v' tx' (h : WIn L wb w' (.slice x1 n1 c1) (.slice x2 n2 c2) v' tx') (hl : tx'.length ≤ 390000000), Calls Tryz.prog 111 #[.pointer (some ⟨wb, 0, none⟩), .string ⟨#[41]⟩] w' fun e w2 => ∃ v2, e = .returned (.tuple #[]) ∧ WFr wb w' w2 v' v2 ∧ WIn L wb w2 (.slice x1 n1 c1) (.slice x2 n2 c2) v2 (tx' ++ [41]) := fun w' v' tx' h hl => hput w' v' tx' [41] h (by simp; omega)
 have hp32 : ∀ w' v' tx' (h : WIn L wb w' (.slice x1 n1 c1) (.slice x2 n2 c2) v' tx') (hl : tx'.length ≤ 390000000), Calls Tryz.prog 111 #[.pointer (some ⟨wb, 0, none⟩), .string ⟨#[32]⟩] w' fun e w2 => ∃ v2, e = .returned (.tuple #[]) ∧ WFr wb w' w2 v' v2 ∧ WIn L wb w2 (.slice x1 n1 c1) (.slice x2 n2 c2) v2 (tx' ++ [32]) := fun w' v' tx' h hl => hput w' v' tx' [32] h (by simp; omega)
 have hkid : ∀ j x, kids[j]? = some x → (tx.length + (accW L.regs L.news k nm kids base I j).length + 9002 + 22000 * x.cnt ≤ 200000000) ∧ ∃ M : Nat, M ≤ 9000 ∧ (partsL kids base).getD j (-1) = (M : Int) ∧ ∀ w' v' tx', tx'.length + 22000 * x.cnt ≤ 200000000 → WIn L wb w' (.slice x1 n1 c1) (.slice x2 n2 c2) v' tx' → WEnv L wb w' (.slice x1 n1 c1) (.slice x2 n2 c2) ns op →
   Calls Tryz.prog 67 #[.pointer (some ⟨wb, 0, none⟩), .int .i64 M] w' fun e w2 => ∃ v2, e = .returned (.tuple #[]) ∧ WFr wb w' w2 v' v2 ∧ WIn L wb w2 (.slice x1 n1 c1) (.slice x2 n2 c2) v2 (tx' ++ x.wtx L.regs L.news (base + cntL (kids.take j))) := by
  intro j x hx
  have hm := List.mem_of_getElem? hx
  have htk := take_kid kids j x hx
  have hal := accW_len henv.bd k nm kids base I j hnl hta
  have hcx := cnt_pos' x
  refine ⟨by omega, base + cntL (kids.take j) + x.cnt - 1, by omega, by rw [part_at kids base j x hx]; omega, ?_⟩
  intro w' v' tx' hl h1 h2
  have := ih x hm (base + cntL (kids.take j)) w' v' tx' (shows_at kids base j x hsh hx) (tameL_mem hta x hm) (wfL_mem hwf x hm) (by omega) hl h1 h2
  rw [show (((base + cntL (kids.take j) + x.cnt : Nat) : Int) - 1) = ((base + cntL (kids.take j) + x.cnt - 1 : Nat) : Int) from by omega] at this
  exact this
 have hacc0 : rgV L.regs I = -1 → tx ++ [40] ++ k.bytes = tx ++ accW L.regs L.news k nm kids base I 0 := fun h => by simp [accW, wtxL, joinT, rgT, h]
 have hacc1 : ∀ m : Nat, rgV L.regs I = (m : Int) → tx ++ [40] ++ k.bytes ++ ([32, 35] ++ Lib.decDigits m) = tx ++ accW L.regs L.news k nm kids base I 0 := fun m h => by
  have : ¬ ((m : Int) = -1) := by omega
  simp [accW, wtxL, joinT, rgT, h, this]
 have hrgl := henv.bd.r I
 have hpr : ∀ (w' : World) (v' : Value) (tx' : List UInt8) (m : Nat), m ≤ 9999 → WFr wb w w' v v' → WIn L wb w' (.slice x1 n1 c1) (.slice x2 n2 c2) v' tx' → tx'.length ≤ 390000000 → Calls Tryz.prog 140 #[.pointer (some ⟨wb, 0, none⟩), .int .i64 m] w' fun e w2 => ∃ v2, e = .returned (.tuple #[]) ∧ WFr wb w' w2 v' v2 ∧ WIn L wb w2 (.slice x1 n1 c1) (.slice x2 n2 c2) v2 (tx' ++ ([32, 35] ++ Lib.decDigits m)) := fun w' v' tx' m hm hf h1 hl => putRegion_any L wb w' _ _ v' ns op tx' m hm h1 (henv.on (hin.fr hf)) hl
 have haccl : ∀ j, (accW L.regs L.news k nm kids base I j).length ≤ 180000011 := fun j => by have := accW_len henv.bd k nm kids base I j hnl hta; have := cntL_take kids j; omega
 have hkb : k.bytes.length ≤ 4 := by cases k <;> decide
 have hbox := Box.new hin n
 have hin0 := hin.below ((Below.refl _ w).alloc (Nat.le_refl _) (nrO n))
 have hfr0 : WFr wb w (w.alloc (nrO n)) v v := WFr.of_below v ((Below.refl _ w).alloc (Nat.le_refl _) (nrO n))
 have hwo := fun w' => wordOf_any k w' hkn
 have hpb := fun w' => partBehindName_any k w'
 have hfw : ∀ {wr : World} {vr : Value}, WFr wb w wr v vr → WEnv L wb wr (.slice x1 n1 c1) (.slice x2 n2 c2) ns op := fun h => henv.on (hin.fr h)
 have HP40 : Hid _ := hp40
 have HP41 : Hid _ := hp41
 have HP32 : Hid _ := hp32
 have HPUT : Hid _ := hput
 have HKID : Hid _ := hkid
 have HBOX : Hid _ := hbox
 have HIN0 : Hid _ := hin0
 have HFR0 : Hid _ := hfr0
 have HACC0 : Hid _ := hacc0
 have HACC1 : Hid _ := hacc1
 have HPR : Hid _ := hpr
 have HACCL : Hid _ := haccl
 have HENV : Hid (∀ (wr : World) (vr : Value), WFr wb w wr v vr → WEnv L wb wr (.slice x1 n1 c1) (.slice x2 n2 c2) ns op) := fun _ _ h => hfw h
 have HF : Hid _ := hf
 have HWD : Hid _ := hwd
 have HP0 : Hid _ := hp0
 have HP1 : Hid _ := hp1
 have HP2 : Hid _ := hp2
 have htl : tx.length ≤ 200001650 := by omega
 clear hp40 hp41 hp32 hput hkid hbox hin0 hfr0 hacc0 hacc1 hpr haccl hfw hf hwd hp0 hp1 hp2 hin henv ih hsh hta hwf hlim hle
 obtain ⟨R, hR⟩ : ∃ R, R = rgV L.regs I := ⟨_, rfl⟩
 rw [← hR] at hrg hrgl ⊢
 have HRV : Hid _ := hR
 clear hR
 show Calls _ _ #[Value.pointer (some ⟨wb, 0, none⟩), Value.agg #[.int .i64 n.form, .int .i64 n.at_, .int .i64 n.beh, .int .i64 n.num, .string (bs n.word), .int .i64 n.region, .int .i64 n.source, .int .i64 n.p0, .int .i64 n.p1, .int .i64 n.p2], .int .i64 R] w _
 go_enter Tryz.func142, Tryz.ntmps142
 go_wp2_with fail
 refine (HP40.out (w.alloc (nrO n)) v tx HIN0.out (by omega)).mono ?_
 rintro _ w1 ⟨v1, rfl, hfr1, hin1⟩
 have hb1 := HBOX.out.keep hfr1
 have d0 : w1.cell? ⟨w.heap.size, 0, none⟩ = some (.int .i64 (formK k)) := by rw [← HF.out]; exact (nr_cells10 hb1.b).1
 have HFR1 : Hid _ := HFR0.out.trans hfr1
 have HIN1 : Hid _ := hin1
 have HB1 : Hid _ := hb1
 clear hfr1 hin1 hb1 HFR0 HIN0 HBOX
 go_wp2_with fail
 refine (hwo _).mono ?_
 rintro _ _ ⟨rfl, rfl⟩
 go_wp2_with fail
 refine (HPUT.out _ v1 _ k.bytes HIN1.out (by simp; omega)).mono ?_
 rintro _ w2 ⟨v2, rfl, hfr2, hin2⟩
 have hb2 := HB1.out.keep hfr2
 have HFR2 : Hid _ := HFR1.out.trans hfr2
 have HB2 : Hid _ := hb2
 by_cases hreg : R = -1
 case' pos =>
  rw [HACC0.out (HRV.out.symm.trans hreg)] at hin2
  have HIN2 : Hid _ := hin2
  clear hfr2 hin2 d0 HFR1 HIN1 HB1 HACC0 HACC1 HPR hb2 HRV
  subst hreg
  go_wp2_with fail
 case' neg =>
  obtain ⟨m, rfl⟩ : ∃ m : Nat, R = (m : Int) := ⟨R.toNat, by omega⟩
  have HACC : Hid _ := HACC1.out m HRV.out.symm
  have HIN1' : Hid _ := hin2
  have HFR1' : Hid _ := HFR2.out
  have HB1' : Hid _ := hb2
  have qm : ((m : Int) != -1) = true := by simp
  clear hfr2 hin2 d0 HFR1 HIN1 HB1 HACC0 HACC1 hb2 HFR2 HB2 HRV
  go_wp2_with fail
  refine (HPR.out _ _ _ m (by omega) HFR1'.out HIN1'.out (by simp; omega)).mono ?_
  rintro _ w2 ⟨v2, rfl, hfr2, hin2⟩
  rw [HACC.out] at hin2
  have HFR2 : Hid _ := HFR1'.out.trans hfr2
  have HIN2 : Hid _ := hin2
  have HB2 : Hid _ := HB1'.out.keep hfr2
  clear hfr2 hin2 HPR HFR1' HIN1' HB1' HACC qm
  go_wp2_with fail
 all_goals
  go_loopw [6] (fun i wr => ∃ (j : Nat) (vr : Value), j ≤ kids.length ∧ i = .int .i64 j ∧ Box wb w.heap.size wr vr n ∧ WFr wb w wr v vr ∧ WIn L wb wr (.slice x1 n1 c1) (.slice x2 n2 c2) vr (tx ++ accW L.regs L.news k nm kids base I j)) (fun i _ => 4 - (intOf i).toNat)
  case atStart => exact ⟨0, v2, by omega, rfl, HB2.out, HFR2.out, HIN2.out⟩
  case round =>
   obtain ⟨j, vr, hj, rfl, hbox, hfr, hin⟩ := hrel
   have d0 : wr.cell? ⟨w.heap.size, 0, none⟩ = some (.int .i64 (formK k)) := by rw [← HF.out]; exact (nr_cells10 hbox.b).1
   have d4 : wr.cell? ⟨w.heap.size, 4, none⟩ = some (.string (bs nm)) := by rw [← HWD.out]; exact (nr_cells10 hbox.b).2.2.2.2.1
   have hpart := fun (h : j ≤ 2) => box_part hbox.b HP0.out HP1.out HP2.out j h
   have HBOX : Hid _ := hbox
   have HFR : Hid _ := hfr
   have HIN : Hid _ := hin
   have HPART : Hid _ := hpart
   have hal := HACCL.out j
   clear hbox hfr hin hpart HB2 HFR2 HIN2
   by_cases hlt : j < kids.length
   ·obtain ⟨x, hx⟩ : ∃ x, kids[j]? = some x := ⟨kids[j], List.getElem?_eq_getElem hlt⟩
    obtain ⟨hbd, M, hMb, hpM, hcall⟩ := HKID.out j x hx
    have hj2 : j ≤ 2 := by omega
    have hpw : ∀ (wx : World) (vx : Value), Box wb w.heap.size wx vx n → wx.cell? ⟨w.heap.size, 7 + j, none⟩ = some (.int .i64 M) := fun wx vx hb => by rw [← hpM]; exact box_part hb.b HP0.out HP1.out HP2.out j hj2
    have hp := hpw _ _ HBOX.out
    have hM1 : ((M : Int) != -1) = true := by simp
    have hs := accW_succ L.regs L.news k nm kids base I j x hx
    obtain ⟨bk, hbk⟩ : ∃ bk, behK k = bk := ⟨_, rfl⟩
    rw [hbk] at hpb
    have HC : Hid _ := hcall
    have HPW : Hid _ := hpw
    by_cases hq : bk = (j : Int)
    ·have hs' : tx ++ accW L.regs L.news k nm kids base I j ++ [32] ++ nm ++ [32] ++ x.wtx L.regs L.news (base + cntL (kids.take j)) = tx ++ accW L.regs L.news k nm kids base I (j + 1) := by rw [hs, piece_yes k nm j (x.wtx L.regs L.news (base + cntL (kids.take j))) (hbk.trans hq)]; simp
     have HS : Hid _ := hs'
     clear hcall hs hs' hpM hx hbk HPART HKID hpw
     subst hq
     rcases (show j = 0 ∨ j = 1 ∨ j = 2 by omega) with rfl | rfl | rfl
     all_goals
      simp only [Nat.reduceAdd] at hp
      go_wp2_with fail
      refine (hpb _).mono ?_
      rintro _ _ ⟨rfl, rfl⟩
      go_wp2_with fail
      refine (HP32.out _ vr _ HIN.out (by simp; omega)).mono ?_
      rintro _ w3 ⟨v3, rfl, hfr3, hin3⟩
      have hb3 := HBOX.out.keep hfr3
      have g4 : w3.cell? ⟨w.heap.size, 4, none⟩ = some (.string (bs nm)) := by rw [← HWD.out]; exact (nr_cells10 hb3.b).2.2.2.2.1
      have HFR3 : Hid _ := HFR.out.trans hfr3
      have HIN3 : Hid _ := hin3
      have HB3 : Hid _ := hb3
      clear hfr3 hin3 hb3
      go_wp2_with fail
      refine (HPUT.out _ v3 _ nm HIN3.out (by simp; omega)).mono ?_
      rintro _ w4 ⟨v4, rfl, hfr4, hin4⟩
      have HFR4 : Hid _ := HFR3.out.trans hfr4
      have HIN4 : Hid _ := hin4
      have HB4 : Hid _ := HB3.out.keep hfr4
      clear hfr4 hin4
      go_wp2_with fail
      refine (HP32.out _ v4 _ HIN4.out (by simp; omega)).mono ?_
      rintro _ w5 ⟨v5, rfl, hfr5, hin5⟩
      have hb5 := HB4.out.keep hfr5
      have g7 := HPW.out _ _ hb5
      simp only [Nat.reduceAdd] at g7
      have HFR5 : Hid _ := HFR4.out.trans hfr5
      have HIN5 : Hid _ := hin5
      have HB5 : Hid _ := hb5
      clear hfr5 hin5 hb5
      go_wp2_with fail
      refine (HC.out _ v5 _ (by simp; omega) HIN5.out (HENV.out _ _ HFR5.out)).mono ?_
      rintro _ w6 ⟨v6, rfl, hfr6, hin6⟩
      have hin6' := hin6
      rw [HS.out] at hin6'
      have HFR6 : Hid _ := HFR5.out.trans hfr6
      have HIN6 : Hid _ := hin6'
      have HB6 : Hid _ := HB5.out.keep hfr6
      clear hfr6 hin6 hin6'
      go_wp2_with fail
      go_roundw
      case rel => exact ⟨_, v6, hlt, rfl, HB6.out, HFR6.out, HIN6.out⟩
      case measure => simp [intOf]
    ·have hs' : tx ++ accW L.regs L.news k nm kids base I j ++ [32] ++ x.wtx L.regs L.news (base + cntL (kids.take j)) = tx ++ accW L.regs L.news k nm kids base I (j + 1) := by rw [hs, piece_no k nm j (x.wtx L.regs L.news (base + cntL (kids.take j))) (fun e => hq (hbk.symm.trans e))]; simp
     have HS : Hid _ := hs'
     have hq1 : ((j : Int) == bk) = false := by rw [beq_eq_false_iff_ne]; exact fun e => hq e.symm
     clear hcall hs hs' hpM hx hbk HPART HKID hpw
     rcases (show j = 0 ∨ j = 1 ∨ j = 2 by omega) with rfl | rfl | rfl
     all_goals
      simp only [Nat.reduceAdd] at hp
      go_wp2_with fail
      refine (hpb _).mono ?_
      rintro _ _ ⟨rfl, rfl⟩
      go_wp2_with fail
      refine (HP32.out _ vr _ HIN.out (by simp; omega)).mono ?_
      rintro _ w5 ⟨v5, rfl, hfr5, hin5⟩
      have hb5 := HBOX.out.keep hfr5
      have g7 := HPW.out _ _ hb5
      simp only [Nat.reduceAdd] at g7
      have HFR5 : Hid _ := HFR.out.trans hfr5
      have HIN5 : Hid _ := hin5
      have HB5 : Hid _ := hb5
      clear hfr5 hin5 hb5
      go_wp2_with fail
      refine (HC.out _ v5 _ (by simp; omega) HIN5.out (HENV.out _ _ HFR5.out)).mono ?_
      rintro _ w6 ⟨v6, rfl, hfr6, hin6⟩
      have hin6' := hin6
      rw [HS.out] at hin6'
      have HFR6 : Hid _ := HFR5.out.trans hfr6
      have HIN6 : Hid _ := hin6'
      have HB6 : Hid _ := HB5.out.keep hfr6
      clear hfr6 hin6 hin6'
      go_wp2_with fail
      go_roundw
      case rel => exact ⟨_, v6, hlt, rfl, HB6.out, HFR6.out, HIN6.out⟩
      case measure => simp [intOf]
   ·have hjk : j = kids.length := by omega
    have hpe : j ≤ 2 → wr.cell? ⟨w.heap.size, 7 + j, none⟩ = some (.int .i64 (-1)) := fun h => by
     have := HPART.out h
     rwa [part_none kids base j (by omega)] at this
    have hacc : tx ++ accW L.regs L.news k nm kids base I j ++ [41] = tx ++ (accW L.regs L.news k nm kids base I kids.length ++ [41]) := by rw [← hjk]; simp
    have HACC : Hid _ := hacc
    have HPE : Hid _ := hpe
    clear HKID HPART hpe hacc
    have hj3 : j ≤ 3 := by omega
    clear hjk hlt hj
    rcases (show j = 0 ∨ j = 1 ∨ j = 2 ∨ j = 3 by omega) with rfl | rfl | rfl | rfl
    all_goals
     try (have hp := HPE.out (by omega); simp only [Nat.reduceAdd] at hp)
     go_wp2_with fail
     refine (HP41.out _ vr _ HIN.out (by simp; omega)).mono ?_
     rintro _ w5 ⟨v5, rfl, hfr5, hin5⟩
     have hin5' := hin5
     rw [HACC.out] at hin5'
     have HFR5 : Hid _ := HFR.out.trans hfr5
     have HIN5 : Hid _ := hin5'
     clear hfr5 hin5 hin5'
     go_wp2_with fail
     refine bodyPost_end (v := .tuple #[]) (by simp [results, Tryz.results142, go_sem]) rfl ⟨v5, rfl, HFR5.out, HIN5.out⟩
end Go.Proofs.YtpicaknklgccoaaGreatDoor
