import Derived.Test.YtpicaknklgccoaaGreatDoorS18
set_option maxHeartbeats 8000000
set_option maxRecDepth 100000
namespace Go.Proofs.YtpicaknklgccoaaGreatDoor
open Go.RowKit
structure Qi (wb B : Nat) (w : World) (v : Value) (n : NR) : Prop where
 b : w.heap[B]? = some (bR n)
 ne : B ≠ wb
 v : v.ownBlock ≠ some B
theorem Qi.keep {wb B : Nat} {w w' : World} {v v' : Value} {n : NR} (h : Qi wb B w v n) (hf : jF wb w w' v v') : Qi wb B w' v' n :=
 have hk := af h.b
 ⟨by rw [hf.blk B hk h.ne h.v]; exact h.b, h.ne, fun e => by
  rcases hf.o B e with e | e
  ·exact h.v e
  ·omega⟩
theorem Qi.new {L : Ly} {wb : Nat} {w : World} {nv ov v : Value} {tx : List UInt8} (h : kg L wb w nv ov v tx) (n : NR) : Qi wb w.heap.size (w.alloc (bR n)) v n :=
 ⟨aj _ _, by have := af h.blk; omega, fun e => by have := (h.row.lt _ e).2; omega⟩
theorem FL : ∀ (kids : List PT) (base j : Nat) (x : PT), kids[j]? = some x -> (ay kids base).getD j (-1) = (((base + aB (kids.take j) + x.cnt : Nat) : Int) - 1)
 | [], _, _, _, h => by simp at h
 | t :: r, base, 0, x, h => by
  simp only [List.getElem?_cons_zero, Option.some.injEq] at h
  subst h
  simp [ay, aB]
 | t :: r, base, j + 1, x, h => by
  simp only [List.getElem?_cons_succ] at h
  simp only [ay, List.getD_cons_succ, List.take_succ_cons, aB]
  rw [FL r (base + t.cnt) j x h]
  omega
theorem yK : ∀ (kids : List PT) (base j : Nat), kids.length <= j -> (ay kids base).getD j (-1) = -1
 | [], _, _, _ => by simp [ay]
 | t :: r, base, 0, h => by simp at h
 | t :: r, base, j + 1, h => by
  simp only [List.length_cons] at h
  simp only [ay, List.getD_cons_succ]
  exact yK r (base + t.cnt) j (by omega)
theorem BQ {ns : List NR} : ∀ (kids : List PT) (base j : Nat) (x : PT), fD ns kids base -> kids[j]? = some x -> fW ns x (base + aB (kids.take j))
 | [], _, _, _, _, h => by simp at h
 | t :: r, base, 0, x, hs, h => by
  simp only [List.getElem?_cons_zero, Option.some.injEq] at h
  subst h
  simp only [fD] at hs
  simpa [aB] using hs.1
 | t :: r, base, j + 1, x, hs, h => by
  simp only [List.getElem?_cons_succ] at h
  simp only [fD] at hs
  have := BQ r (base + t.cnt) j x hs.2 h
  simpa [List.take_succ_cons, aB, Nat.add_assoc] using this
theorem Km (kids : List PT) (j : Nat) (x : PT) (h : kids[j]? = some x) : aB (kids.take j) + x.cnt <= aB kids := by
 have h1 := sM kids (j + 1)
 rw [List.take_add_one, h] at h1
 simp only [Option.toList_some] at h1
 rw [yL] at h1
 omega
theorem BR {w : World} {B : Nat} {n : NR} {l : List Int} (h : w.heap[B]? = some (bR n)) (h0 : n.p0 = l.getD 0 (-1)) (h1 : n.p1 = l.getD 1 (-1)) (h2 : n.p2 = l.getD 2 (-1)) (j : Nat) (hj : j <= 2) : w.cell? ⟨B, 7 + j, none⟩ = some (.int .i64 (l.getD j (-1))) := by
 obtain ⟨_, _, _, _, _, _, _, c7, c8, c9⟩ := aC h
 rcases (show j = 0 \/ j = 1 \/ j = 2 by omega) with rfl | rfl | rfl
 ·rw [<- h0]; exact c7
 ·rw [<- h1]; exact c8
 ·rw [<- h2]; exact c9
theorem Hw (k : Kw) (nm : List UInt8) (j : Nat) (x : List UInt8) (h : Hq k = (j : Int)) : cI k nm j x = [32] ++ nm ++ [32] ++ x := by
 have : (k = .bb /\ j = 0) \/ (k = .loop /\ j = 1) := by
  cases k <;> simp [Hq] at h ⊢ <;> omega
 unfold cI; rw [if_pos this]; simp
theorem Kn (k : Kw) (nm : List UInt8) (j : Nat) (x : List UInt8) (h : Hq k ≠ (j : Int)) : cI k nm j x = [32] ++ x := by
 have : ¬ ((k = .bb /\ j = 0) \/ (k = .loop /\ j = 1)) := by
  rintro (⟨rfl, rfl⟩ | ⟨rfl, rfl⟩) <;> simp [Hq] at h
 unfold cI; rw [if_neg this]; simp
theorem Af (L : Ly) (wb : Nat) (x1 : Option Addr) (n1 c1 : Nat) (x2 : Option Addr) (n2 c2 : Nat) (ns : List NR) (op : List Int) (k : Kw) (nm : List UInt8) (kids : List PT) (hkn : k ≠ .new) (har : kids.length <= 3) (ih : ∀ x ∈ kids, yJ L wb (.slice x1 n1 c1) (.slice x2 n2 c2) ns op x)
  (base : Nat) (w : World) (v : Value) (tx : List UInt8) (n : NR) (hf : n.form = aU k) (hwd : n.word = nm) (oA : n.p0 = (ay kids base).getD 0 (-1)) (gu : n.p1 = (ay kids base).getD 1 (-1)) (uE : n.p2 = (ay kids base).getD 2 (-1))
  (hsh : fD ns kids base) (lg : nm.length <= 9000) (jU : bG kids) (hwf : oG kids) (hle : base + aB kids <= ns.length) (mX : tx.length + 22000 * (1 + aB kids) <= 200001650) (I : Nat) (hrg : -1 <= jJ L.regs I) (hin : kg L wb w (.slice x1 n1 c1) (.slice x2 n2 c2) v tx) (aW : oZ L wb w (.slice x1 n1 c1) (.slice x2 n2 c2) ns op) :
  Calls Tryz.prog 142 #[.pointer (some ⟨wb, 0, none⟩), aI n, .int .i64 (jJ L.regs I)] w fun e w' => ∃ v', e = .returned (.tuple #[]) /\ jF wb w w' v v' /\ kg L wb w' (.slice x1 n1 c1) (.slice x2 n2 c2) v' (tx ++ (lN L.regs L.news k nm kids base I kids.length ++ [41])) := by
 have hlt := af hin.blk
 have aaK := aW.len
 have hput := fun w' v' iG s (h : kg L wb w' (.slice x1 n1 c1) (.slice x2 n2 c2) v' iG) (hl : iG.length + s.length <= 400000000) => lu wb w' _ _ v' iG s h hl
 have Vy : ∀ w' v' iG (h : kg L wb w' (.slice x1 n1 c1) (.slice x2 n2 c2) v' iG) (hl : iG.length <= 390000000), Calls Tryz.prog 111 #[.pointer (some ⟨wb, 0, none⟩), .string ⟨#[40]⟩] w' fun e w2 => ∃ v2, e = .returned (.tuple #[]) /\ jF wb w' w2 v' v2 /\ kg L wb w2 (.slice x1 n1 c1) (.slice x2 n2 c2) v2 (iG ++ [40]) := fun w' v' iG h hl => hput w' v' iG [40] h (by simp; omega)
 have Kk : ∀ w' v' iG (h : kg L wb w' (.slice x1 n1 c1) (.slice x2 n2 c2) v' iG) (hl : iG.length <= 390000000), Calls Tryz.prog 111 #[.pointer (some ⟨wb, 0, none⟩), .string ⟨#[41]⟩] w' fun e w2 => ∃ v2, e = .returned (.tuple #[]) /\ jF wb w' w2 v' v2 /\ kg L wb w2 (.slice x1 n1 c1) (.slice x2 n2 c2) v2 (iG ++ [41]) := fun w' v' iG h hl => hput w' v' iG [41] h (by simp; omega)
 have Ki : ∀ w' v' iG (h : kg L wb w' (.slice x1 n1 c1) (.slice x2 n2 c2) v' iG) (hl : iG.length <= 390000000), Calls Tryz.prog 111 #[.pointer (some ⟨wb, 0, none⟩), .string ⟨#[32]⟩] w' fun e w2 => ∃ v2, e = .returned (.tuple #[]) /\ jF wb w' w2 v' v2 /\ kg L wb w2 (.slice x1 n1 c1) (.slice x2 n2 c2) v2 (iG ++ [32]) := fun w' v' iG h hl => hput w' v' iG [32] h (by simp; omega)
 have Ko : ∀ j x, kids[j]? = some x -> (tx.length + (lN L.regs L.news k nm kids base I j).length + 9002 + 22000 * x.cnt <= 200000000) /\ ∃ M : Nat, M <= 9000 /\ (ay kids base).getD j (-1) = (M : Int) /\ ∀ w' v' iG, iG.length + 22000 * x.cnt <= 200000000 -> kg L wb w' (.slice x1 n1 c1) (.slice x2 n2 c2) v' iG -> oZ L wb w' (.slice x1 n1 c1) (.slice x2 n2 c2) ns op ->
   Calls Tryz.prog 67 #[.pointer (some ⟨wb, 0, none⟩), .int .i64 M] w' fun e w2 => ∃ v2, e = .returned (.tuple #[]) /\ jF wb w' w2 v' v2 /\ kg L wb w2 (.slice x1 n1 c1) (.slice x2 n2 c2) v2 (iG ++ x.uJ L.regs L.news (base + aB (kids.take j))) := by
  intro j x hx
  have hm := List.mem_of_getElem? hx
  have htk := Km kids j x hx
  have hal := BI aW.bd k nm kids base I j lg jU
  have XP := dI x
  refine ⟨by omega, base + aB (kids.take j) + x.cnt - 1, by omega, by rw [FL kids base j x hx]; omega, ?_⟩
  intro w' v' iG hl h1 h2
  have := ih x hm (base + aB (kids.take j)) w' v' iG (BQ kids base j x hsh hx) (yG jU x hm) (zP hwf x hm) (by omega) hl h1 h2
  rw [show (((base + aB (kids.take j) + x.cnt : Nat) : Int) - 1) = ((base + aB (kids.take j) + x.cnt - 1 : Nat) : Int) from by omega] at this
  exact this
 have Qj : jJ L.regs I = -1 -> tx ++ [40] ++ k.bytes = tx ++ lN L.regs L.news k nm kids base I 0 := fun h => by simp [lN, gF, bC, Na, h]
 have Qk : ∀ m : Nat, jJ L.regs I = (m : Int) -> tx ++ [40] ++ k.bytes ++ ([32, 35] ++ Lib.decDigits m) = tx ++ lN L.regs L.news k nm kids base I 0 := fun m h => by
  have : ¬ ((m : Int) = -1) := by omega
  simp [lN, gF, bC, Na, h, this]
 have RJ := aW.bd.r I
 have jm : ∀ (w' : World) (v' : Value) (iG : List UInt8) (m : Nat), m <= 9999 -> jF wb w w' v v' -> kg L wb w' (.slice x1 n1 c1) (.slice x2 n2 c2) v' iG -> iG.length <= 390000000 -> Calls Tryz.prog 140 #[.pointer (some ⟨wb, 0, none⟩), .int .i64 m] w' fun e w2 => ∃ v2, e = .returned (.tuple #[]) /\ jF wb w' w2 v' v2 /\ kg L wb w2 (.slice x1 n1 c1) (.slice x2 n2 c2) v2 (iG ++ ([32, 35] ++ Lib.decDigits m)) := fun w' v' iG m hm hf h1 hl => pK L wb w' _ _ v' ns op iG m hm h1 (aW.on (hin.fr hf)) hl
 have Ql : ∀ j, (lN L.regs L.news k nm kids base I j).length <= 180000011 := fun j => by have := BI aW.bd k nm kids base I j lg jU; have := sM kids j; omega
 have hkb : k.bytes.length <= 4 := by cases k <;> decide
 have BS := Qi.new hin n
 have Kp := hin.below ((Below.refl _ w).alloc (Nat.le_refl _) (bR n))
 have Hx : jF wb w (w.alloc (bR n)) v v := jF.ju v ((Below.refl _ w).alloc (Nat.le_refl _) (bR n))
 have hwo := fun w' => D7 k w' hkn
 have qP := fun w' => qi k w'
 have hfw : ∀ {wr : World} {vr : Value}, jF wb w wr v vr -> oZ L wb wr (.slice x1 n1 c1) (.slice x2 n2 c2) ns op := fun h => aW.on (hin.fr h)
 have Y3 : Hid _ := Vy
 have RB : Hid _ := Kk
 have Kj : Hid _ := Ki
 have Vz : Hid _ := hput
 have N9 : Hid _ := Ko
 have Hy : Hid _ := BS
 have VA : Hid _ := Kp
 have VB : Hid _ := Hx
 have Kq : Hid _ := Qj
 have Kr : Hid _ := Qk
 have A6 : Hid _ := jm
 have VC : Hid _ := Ql
 have nP : Hid (∀ (wr : World) (vr : Value), jF wb w wr v vr -> oZ L wb wr (.slice x1 n1 c1) (.slice x2 n2 c2) ns op) := fun _ _ h => hfw h
 have HF : Hid _ := hf
 have HWD : Hid _ := hwd
 have HP0 : Hid _ := oA
 have RA : Hid _ := gu
 have XK : Hid _ := uE
 have htl : tx.length <= 200001650 := by omega
 clear Vy Kk Ki hput Ko BS Kp Hx Qj Qk jm Ql hfw hf hwd oA gu uE hin aW ih hsh jU hwf mX hle
 obtain ⟨R, hR⟩ : ∃ R, R = jJ L.regs I := ⟨_, rfl⟩
 rw [<- hR] at hrg RJ ⊢
 have Oa : Hid _ := hR
 clear hR
 show Calls _ _ #[Value.pointer (some ⟨wb, 0, none⟩), Value.agg #[.int .i64 n.form, .int .i64 n.at_, .int .i64 n.aO, .int .i64 n.num, .string (bs n.word), .int .i64 n.region, .int .i64 n.source, .int .i64 n.p0, .int .i64 n.p1, .int .i64 n.p2], .int .i64 R] w _
 go_enter Tryz.func142, Tryz.ntmps142
 go_wp2_with fail
 refine (Y3.out (w.alloc (bR n)) v tx VA.out (by omega)).mono ?_
 rintro _ w1 ⟨v1, rfl, qo, mr⟩
 have hb1 := Hy.out.keep qo
 have d0 : w1.cell? ⟨w.heap.size, 0, none⟩ = some (.int .i64 (aU k)) := by rw [<- HF.out]; exact (aC hb1.b).1
 have Hz : Hid _ := VB.out.trans qo
 have RN : Hid _ := mr
 have dF : Hid _ := hb1
 clear qo mr hb1 VB VA Hy
 go_wp2_with fail
 refine (hwo _).mono ?_
 rintro _ _ ⟨rfl, rfl⟩
 go_wp2_with fail
 refine (Vz.out _ v1 _ k.bytes RN.out (by simp; omega)).mono ?_
 rintro _ w2 ⟨v2, rfl, cO, bf⟩
 have hb2 := dF.out.keep cO
 have vS : Hid _ := Hz.out.trans cO
 have dN : Hid _ := hb2
 by_cases o5 : R = -1
 case' pos =>
  rw [Kq.out (Oa.out.symm.trans o5)] at bf
  have vT : Hid _ := bf
  clear cO bf d0 Hz RN dF Kq Kr A6 hb2 Oa
  subst o5
  go_wp2_with fail
 case' neg =>
  obtain ⟨m, rfl⟩ : ∃ m : Nat, R = (m : Int) := ⟨R.toNat, by omega⟩
  have Ob : Hid _ := Kr.out m Oa.out.symm
  have Qm : Hid _ := bf
  have Ks : Hid _ := vS.out
  have VD : Hid _ := hb2
  have qm : ((m : Int) != -1) = true := by simp
  clear cO bf d0 Hz RN dF Kq Kr hb2 vS dN Oa
  go_wp2_with fail
  refine (A6.out _ _ _ m (by omega) Ks.out Qm.out (by simp; omega)).mono ?_
  rintro _ w2 ⟨v2, rfl, cO, bf⟩
  rw [Ob.out] at bf
  have vS : Hid _ := Ks.out.trans cO
  have vT : Hid _ := bf
  have dN : Hid _ := VD.out.keep cO
  clear cO bf A6 Ks Qm VD Ob qm
  go_wp2_with fail
 all_goals
  go_loopw [6] (fun i wr => ∃ (j : Nat) (vr : Value), j <= kids.length /\ i = .int .i64 j /\ Qi wb w.heap.size wr vr n /\ jF wb w wr v vr /\ kg L wb wr (.slice x1 n1 c1) (.slice x2 n2 c2) vr (tx ++ lN L.regs L.news k nm kids base I j)) (fun i _ => 4 - (intOf i).toNat)
  case atStart => exact ⟨0, v2, by omega, rfl, dN.out, vS.out, vT.out⟩
  case round =>
   obtain ⟨j, vr, hj, rfl, BS, hfr, hin⟩ := hrel
   have d0 : wr.cell? ⟨w.heap.size, 0, none⟩ = some (.int .i64 (aU k)) := by rw [<- HF.out]; exact (aC BS.b).1
   have d4 : wr.cell? ⟨w.heap.size, 4, none⟩ = some (.string (bs nm)) := by rw [<- HWD.out]; exact (aC BS.b).2.2.2.2.1
   have Qn := fun (h : j <= 2) => BR BS.b HP0.out RA.out XK.out j h
   have Hy : Hid _ := BS
   have pV : Hid _ := hfr
   have lR : Hid _ := hin
   have FM : Hid _ := Qn
   have hal := VC.out j
   clear BS hfr hin Qn dN vS vT
   by_cases hlt : j < kids.length
   ·obtain ⟨x, hx⟩ : ∃ x, kids[j]? = some x := ⟨kids[j], List.getElem?_eq_getElem hlt⟩
    obtain ⟨gB, M, hMb, Y4, hcall⟩ := N9.out j x hx
    have hj2 : j <= 2 := by omega
    have XS : ∀ (wx : World) (vx : Value), Qi wb w.heap.size wx vx n -> wx.cell? ⟨w.heap.size, 7 + j, none⟩ = some (.int .i64 M) := fun wx vx hb => by rw [<- Y4]; exact BR hb.b HP0.out RA.out XK.out j hj2
    have hp := XS _ _ Hy.out
    have hM1 : ((M : Int) != -1) = true := by simp
    have hs := Hr L.regs L.news k nm kids base I j x hx
    obtain ⟨bk, hbk⟩ : ∃ bk, Hq k = bk := ⟨_, rfl⟩
    rw [hbk] at qP
    have HC : Hid _ := hcall
    have HPW : Hid _ := XS
    by_cases hq : bk = (j : Int)
    ·have hs' : tx ++ lN L.regs L.news k nm kids base I j ++ [32] ++ nm ++ [32] ++ x.uJ L.regs L.news (base + aB (kids.take j)) = tx ++ lN L.regs L.news k nm kids base I (j + 1) := by rw [hs, Hw k nm j (x.uJ L.regs L.news (base + aB (kids.take j))) (hbk.trans hq)]; simp
     have HS : Hid _ := hs'
     clear hcall hs hs' Y4 hx hbk FM N9 XS
     subst hq
     rcases (show j = 0 \/ j = 1 \/ j = 2 by omega) with rfl | rfl | rfl
     all_goals
      simp only [Nat.reduceAdd] at hp
      go_wp2_with fail
      refine (qP _).mono ?_
      rintro _ _ ⟨rfl, rfl⟩
      go_wp2_with fail
      refine (Kj.out _ vr _ lR.out (by simp; omega)).mono ?_
      rintro _ w3 ⟨v3, rfl, bM, dV⟩
      have hb3 := Hy.out.keep bM
      have g4 : w3.cell? ⟨w.heap.size, 4, none⟩ = some (.string (bs nm)) := by rw [<- HWD.out]; exact (aC hb3.b).2.2.2.2.1
      have Y5 : Hid _ := pV.out.trans bM
      have RO : Hid _ := dV
      have iI : Hid _ := hb3
      clear bM dV hb3
      go_wp2_with fail
      refine (Vz.out _ v3 _ nm RO.out (by simp; omega)).mono ?_
      rintro _ w4 ⟨v4, rfl, gN, bQ⟩
      have Kt : Hid _ := Y5.out.trans gN
      have H0 : Hid _ := bQ
      have oF : Hid _ := iI.out.keep gN
      clear gN bQ
      go_wp2_with fail
      refine (Kj.out _ v4 _ H0.out (by simp; omega)).mono ?_
      rintro _ w5 ⟨v5, rfl, nQ, mw⟩
      have lY := oF.out.keep nQ
      have g7 := HPW.out _ _ lY
      simp only [Nat.reduceAdd] at g7
      have ye : Hid _ := Kt.out.trans nQ
      have BU : Hid _ := mw
      have Bu : Hid _ := lY
      clear nQ mw lY
      go_wp2_with fail
      refine (HC.out _ v5 _ (by simp; omega) BU.out (nP.out _ _ ye.out)).mono ?_
      rintro _ w6 ⟨v6, rfl, Ec, Ku⟩
      have vU := Ku
      rw [HS.out] at vU
      have RP : Hid _ := ye.out.trans Ec
      have RQ : Hid _ := vU
      have DX : Hid _ := Bu.out.keep Ec
      clear Ec Ku vU
      go_wp2_with fail
      go_roundw
      case rel => exact ⟨_, v6, hlt, rfl, DX.out, RP.out, RQ.out⟩
      case measure => simp [intOf]
    ·have hs' : tx ++ lN L.regs L.news k nm kids base I j ++ [32] ++ x.uJ L.regs L.news (base + aB (kids.take j)) = tx ++ lN L.regs L.news k nm kids base I (j + 1) := by rw [hs, Kn k nm j (x.uJ L.regs L.news (base + aB (kids.take j))) (fun e => hq (hbk.symm.trans e))]; simp
     have HS : Hid _ := hs'
     have hq1 : ((j : Int) == bk) = false := by rw [beq_eq_false_iff_ne]; exact fun e => hq e.symm
     clear hcall hs hs' Y4 hx hbk FM N9 XS
     rcases (show j = 0 \/ j = 1 \/ j = 2 by omega) with rfl | rfl | rfl
     all_goals
      simp only [Nat.reduceAdd] at hp
      go_wp2_with fail
      refine (qP _).mono ?_
      rintro _ _ ⟨rfl, rfl⟩
      go_wp2_with fail
      refine (Kj.out _ vr _ lR.out (by simp; omega)).mono ?_
      rintro _ w5 ⟨v5, rfl, nQ, mw⟩
      have lY := Hy.out.keep nQ
      have g7 := HPW.out _ _ lY
      simp only [Nat.reduceAdd] at g7
      have ye : Hid _ := pV.out.trans nQ
      have BU : Hid _ := mw
      have Bu : Hid _ := lY
      clear nQ mw lY
      go_wp2_with fail
      refine (HC.out _ v5 _ (by simp; omega) BU.out (nP.out _ _ ye.out)).mono ?_
      rintro _ w6 ⟨v6, rfl, Ec, Ku⟩
      have vU := Ku
      rw [HS.out] at vU
      have RP : Hid _ := ye.out.trans Ec
      have RQ : Hid _ := vU
      have DX : Hid _ := Bu.out.keep Ec
      clear Ec Ku vU
      go_wp2_with fail
      go_roundw
      case rel => exact ⟨_, v6, hlt, rfl, DX.out, RP.out, RQ.out⟩
      case measure => simp [intOf]
   ·have hjk : j = kids.length := by omega
    have hpe : j <= 2 -> wr.cell? ⟨w.heap.size, 7 + j, none⟩ = some (.int .i64 (-1)) := fun h => by
     have := FM.out h
     rwa [yK kids base j (by omega)] at this
    have Kv : tx ++ lN L.regs L.news k nm kids base I j ++ [41] = tx ++ (lN L.regs L.news k nm kids base I kids.length ++ [41]) := by rw [<- hjk]; simp
    have Ob : Hid _ := Kv
    have HPE : Hid _ := hpe
    clear N9 FM hpe Kv
    have hj3 : j <= 3 := by omega
    clear hjk hlt hj
    rcases (show j = 0 \/ j = 1 \/ j = 2 \/ j = 3 by omega) with rfl | rfl | rfl | rfl
    all_goals
     try (have hp := HPE.out (by omega); simp only [Nat.reduceAdd] at hp)
     go_wp2_with fail
     refine (RB.out _ vr _ lR.out (by simp; omega)).mono ?_
     rintro _ w5 ⟨v5, rfl, nQ, mw⟩
     have Kx := mw
     rw [Ob.out] at Kx
     have ye : Hid _ := pV.out.trans nQ
     have BU : Hid _ := Kx
     clear nQ mw Kx
     go_wp2_with fail
     refine bodyPost_end (v := .tuple #[]) (by simp [results, Tryz.results142, go_sem]) rfl ⟨v5, rfl, ye.out, BU.out⟩
end Go.Proofs.YtpicaknklgccoaaGreatDoor
