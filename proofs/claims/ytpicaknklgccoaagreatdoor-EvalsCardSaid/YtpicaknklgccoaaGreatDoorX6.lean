import Derived.Test.YtpicaknklgccoaaGreatDoorX5
import Derived.Test.YtpicaknklgccoaaGreatDoorX1
namespace Go.Proofs.YtpicaknklgccoaaGreatDoor
open Go.RowKit

/-- new blocks and draws leave a Typing as it was -/
theorem TyIn.grow {w0 w w' : World} {yb : Nat} {cls : List Nat} {cv nv tv ov : Value} {env : TEnv} {st : TSt} (h : TyIn w0 w yb cls cv nv tv ov env st) (hb : Below w.heap.size w w') : TyIn w0 w' yb cls cv nv tv ov env st :=
  ⟨h.b0.trans (hb.mono h.b0.size), h.hyb, by rw [hb.block yb (blk_lt h.y)]; exact h.y, owns_below h.c hb, owns_below h.n hb, owns_below h.t hb, owns_below h.o hb, h.cy, h.ny, h.ty, h.oy, h.cn, h.ct, h.co, h.nt, h.no, h.tov⟩

set_option maxRecDepth 100000 in
set_option maxHeartbeats 1000000 in
theorem form_num (w0 : World) (yb : Nat) (cls : List Nat) (p : Nat) (s : List UInt8) : FormOk w0 yb cls (.num p s) (fun _ _ _ st => (.n, st)) := by
  intro id site b F env st cv nv tv ov w hT hin _ _ _ _ _
  simp only [IsT] at hT
  have hb := blk_lt hT.2
  have x0 : w.cell? ⟨b, 0, none⟩ = some (.string (bs numB)) := by rw [hin.b0.cell (p := ⟨b, 0, none⟩) hb, blk_cell hT.2]; rfl
  have q0 : ((bs numB).toList == [110, 117, 109, 98, 101, 114]) = true := by rw [bs_beq0]; decide
  have hbw : b < w.heap.size := by have := hin.b0.size; omega
  have HIN : Hid _ := hin
  clear hT hin
  show Calls _ _ #[Value.pointer (some ⟨yb, 0, none⟩), Value.pointer (some ⟨b, 0, none⟩)] w _
  go_enter Tryz.func113, Tryz.ntmps113
  go_wp2
  go_ret
  exact ⟨rfl, nv, tv, Fr.below ((Below.refl _ _).alloc (Nat.le_refl _) _) _ _ _ _, HIN.out.grow ((Below.refl _ _).alloc (Nat.le_refl _) _)⟩

theorem look_nil (s : List UInt8) : look [] s = none := rfl
theorem look_snoc (env : TEnv) (x : List UInt8 × Ty) (s : List UInt8) : look (env ++ [x]) s = if x.1 == s then some x.2 else look env s := by
  unfold look
  rw [List.reverse_append, List.reverse_singleton, List.singleton_append, List.find?_cons]
  cases h : (x.1 == s) <;> simp
theorem look_take (env : TEnv) (j : Nat) (hj : j < env.length) (s : List UInt8) : look (env.take (j + 1)) s = if (env[j].1 == s) then some env[j].2 else look (env.take j) s := by
  rw [List.take_succ_eq_append_getElem hj, look_snoc]

def nameF (p : Nat) (s : List UInt8) (env : TEnv) (st : TSt) : Ty × TSt := match look env s with
  | some t => (t, st)
  | none => (.n, errS st 4 p)
theorem nameF_none {p : Nat} {s : List UInt8} {env : TEnv} {st : TSt} (h : look env s = none) : nameF p s env st = (.n, errS st 4 p) := by unfold nameF; rw [h]
theorem nameF_some {p : Nat} {s : List UInt8} {env : TEnv} {st : TSt} {t : Ty} (h : look env s = some t) : nameF p s env st = (t, st) := by unfold nameF; rw [h]

set_option maxRecDepth 100000 in
set_option maxHeartbeats 2000000 in
theorem form_name (w0 : World) (yb : Nat) (cls : List Nat) (p : Nat) (s : List UInt8) : FormOk w0 yb cls (.name p s) (fun _ _ env st => nameF p s env st) := by
  intro id site b F env st cv nv tv ov w hT hin _ _ _ _ henv
  simp only [PT.cnt] at henv
  simp only [IsT] at hT
  have hb := blk_lt hT.2
  have hbw : b < w.heap.size := by have := hin.b0.size; omega
  have hbx : w.heap[b]? = some (.cells (exCells nameB p s 0 (.slice none 0 0) id id site) 82 (0, 0)) := by rw [hin.b0.block b hb]; exact hT.2
  have x0 : w.cell? ⟨b, 0, none⟩ = some (.string (bs nameB)) := by rw [blk_cell hbx]; rfl
  have x2 : w.cell? ⟨b, 2, none⟩ = some (.string (bs s)) := by rw [blk_cell hbx]; rfl
  have q0 : ((bs nameB).toList == [110, 117, 109, 98, 101, 114]) = false := by rw [bs_beq0]; decide
  have q1 : ((bs nameB).toList == [110, 97, 109, 101]) = true := by rw [bs_beq0]; decide
  have hG := hin.toG
  obtain ⟨na, nc, hnv, hna⟩ := hG.shapeN
  obtain ⟨ta, tc, htv, hta⟩ := hG.shapeT
  rw [List.length_map] at hnv htv hna hta
  have hy := hin.y
  have hyl := blk_lt hy
  rw [hnv, htv] at hy
  have y1 : w.cell? ⟨yb, 1, none⟩ = some (.slice na env.length nc) := by rw [blk_cell hy]; rfl
  have y2 : w.cell? ⟨yb, 2, none⟩ = some (.slice ta env.length tc) := by rw [blk_cell hy]; rfl
  have HIN : Hid _ := hin
  have HNV : Hid _ := hnv
  have HTV : Hid _ := htv
  have HBX : Hid _ := hbx
  have HNA : Hid _ := hna
  have HTA : Hid _ := hta
  have hne : b ≠ yb := by have := hin.hyb; omega
  clear hT hin hG hnv htv hy hbx hna hta
  show Calls _ _ #[Value.pointer (some ⟨yb, 0, none⟩), Value.pointer (some ⟨b, 0, none⟩)] w _
  go_enter Tryz.func113, Tryz.ntmps113
  go_wp2
  go_loopw [6] (fun i wr => ∃ (j m : Nat), j ≤ env.length ∧ i = .int .i64 ((j : Int) - 1) ∧ wr = (w.alloc (.cells #[.string ⟨#[]⟩, .string ⟨#[]⟩, .string ⟨#[]⟩] 139)).drewN m ∧ look env s = look (env.take j) s) (fun i _ => (intOf i + 1).toNat)
  case atStart => exact ⟨env.length, 0, by omega, rfl, rfl, by rw [List.take_length]⟩
  case round =>
    obtain ⟨j, m, hj, rfl, rfl, hl⟩ := hrel
    have HL : Hid _ := hl
    clear hl
    by_cases hj0 : j = 0
    · subst hj0
      have her := fun (o : Obj) (m : Nat) => err_any ((w.alloc o).drewN m) yb b cv nv tv ov (.slice none 0 0) st.e st.at_ 4 nameB s p 0 id id site hne (blk_alloc o HIN.out.y) (blk_alloc o HBX.out)
      unfold ptr at her
      go_wp2_with (go_at_call 115; refine (her _ _).mono ?_; rintro e w2 ⟨rfl, hg1, hy1⟩)
      go_ret
      have e : look env s = none := by rw [HL.out]; rfl
      rw [nameF_none e]
      refine ⟨rfl, nv, tv, (Fr.below (below_box w _ m) _ _ _ _).trans (Fr.grown hg1 _ _ _), ?_⟩
      have h := (HIN.out.grow (below_box w _ m)).err hg1 hy1
      unfold errS
      by_cases h0 : st.e = 0
      · rw [if_pos h0, if_pos h0] at h; rw [if_pos h0]; exact h
      · rw [if_neg h0, if_neg h0] at h; rw [if_neg h0]; exact h
    · obtain ⟨k, hk⟩ : ∃ k, j = k + 1 := ⟨j - 1, by omega⟩
      subst hk
      have hkl : k < env.length := by omega
      obtain ⟨gn, hgn⟩ := HNA.out (by omega)
      obtain ⟨gt, hgt⟩ := HTA.out (by omega)
      have hcn : w.cell? ⟨gn, k, none⟩ = some (.string (bs env[k].1)) := by
        have h := HIN.out.n
        rw [HNV.out, hgn] at h
        rw [h.cellAt k (by omega), List.getElem?_map, List.getElem?_eq_getElem hkl]; rfl
      have hct : w.cell? ⟨gt, k, none⟩ = some (.string (bs env[k].2.txt)) := by
        have h := HIN.out.t
        rw [HTV.out, hgt] at h
        rw [h.cellAt k (by omega), List.getElem?_map, List.getElem?_eq_getElem hkl]; rfl
      have hgnw : gn < w.heap.size := World.block_lt_of_cell? _ _ hcn
      have hgtw : gt < w.heap.size := World.block_lt_of_cell? _ _ hct
      rw [hgn] at y1
      rw [hgt] at y2
      have ek : ((k + 1 : Nat) : Int) - 1 = (k : Int) := by omega
      rw [ek]
      have hlt := look_take env k hkl s
      by_cases hs : (env[k].1 == s) = true
      · rw [if_pos hs] at hlt
        have qs : ((bs env[k].1).toList == (bs s).toList) = true := by rw [bs_beq0, Lib.toList_data]; exact hs
        have HR : Hid (look env s = some env[k].2) := HL.out.trans hlt
        clear hlt hs hgn hgt ek
        go_wp2
        go_quiet (fail)
        go_wp2
        go_ret
        rw [nameF_some HR.out]
        exact ⟨rfl, nv, tv, Fr.below (below_box w _ _) _ _ _ _, HIN.out.grow (below_box w _ _)⟩
      · have hs' : (env[k].1 == s) = false := by simpa using hs
        rw [if_neg hs] at hlt
        have qs : ((bs env[k].1).toList == (bs s).toList) = false := by rw [bs_beq0, Lib.toList_data]; exact hs'
        have HR : Hid (look env s = look (env.take k) s) := HL.out.trans hlt
        clear hlt hs hs' hgn hgt ek
        go_wp2
        go_quiet (fail)
        go_wp2
        go_roundw
        case rel => exact ⟨k, _, by omega, by go_num, rfl, HR.out⟩
        case measure => simp [intOf]
end Go.Proofs.YtpicaknklgccoaaGreatDoor

namespace Go.Proofs.YtpicaknklgccoaaGreatDoor
open Go.RowKit

def kt (ks : List Ty) (i : Nat) : List UInt8 := match ks[i]? with
  | some t => t.txt
  | none => []
def arity (k : Kw) : Nat := match k with
  | .let_ => 2
  | .pair => 2
  | .fst => 1
  | .snd => 1
  | .if_ => 3
  | .add => 2
  | .sub => 2
  | .less => 2
  | .loop => 3
  | .new => 1

theorem made_any (w : World) (yb xb : Nat) (cls : List Nat) (cv nv tv ov kv : Value) (st : TSt) (nm : List UInt8) (px : Nat) (n : Int) (id last site : Nat) (base : Nat) (k : Kw) (ks : List Ty) (hne : xb ≠ yb) (h0 : st.e = 0)
    (hy : w.heap[yb]? = some (.cells (tyCells cv nv tv ov st.e st.at_) 115 (0, 0)))
    (hx : w.heap[xb]? = some (.cells (exCells k.bytes px nm n kv id last site) 82 (0, 0)))
    (hc : w.ownsRow base 3 1 cv cls.length (cls.map fun (k : Nat) => Value.int .i64 k)) (hcl : cls.length ≤ 9000) (hc100 : ∀ x ∈ cls, x < 100) (hsite : k = .pair → site < cls.length)
    (hk : k ≠ .let_) (har : ks.length = arity k) (hfit : ∀ t ∈ ks, t.fit) :
    Calls Tryz.prog 144 #[ptr yb, ptr xb, .agg #[.string (bs (kt ks 0)), .string (bs (kt ks 1)), .string (bs (kt ks 2))]] w fun v w' =>
      v = .returned (.string (bs (madeT cls k px site ks st).1.txt)) ∧ w.grownBy w' (some yb) ∧ w'.heap[yb]? = some (.cells (tyCells cv nv tv ov (madeT cls k px site ks st).2.e (madeT cls k px site ks st).2.at_) 115 (0, 0)) := by
  have hl : ∀ t ∈ ks, t.txt.length ≤ 1000 := fun t ht => fit_len (hfit t ht)
  rw [h0] at hy
  have ee : (errS st 5 px).e = 5 ∧ (errS st 5 px).at_ = px := by unfold errS; rw [if_pos h0]; exact ⟨rfl, rfl⟩
  cases k with
  | let_ => exact absurd rfl hk
  | new =>
    match ks, har with
    | [a], _ =>
      simp only [madeT, h0]
      exact made_new w yb xb cv nv tv ov kv st.at_ nm px n id last site hy hx a (by have := hl a (by simp); omega)
  | fst =>
    match ks, har with
    | [.n], _ => simp only [madeT, ee.1, ee.2]; exact made_fst_no w yb xb cv nv tv ov kv st.at_ nm px n id last site hne hy hx
    | [.p r a b], _ => simp only [madeT, h0]; exact made_fst_ok w yb xb cv nv tv ov kv st.at_ nm px n id last site hy hx r a b (by have := hl (.p r a b) (by simp); omega)
  | snd =>
    match ks, har with
    | [.n], _ => simp only [madeT, ee.1, ee.2]; exact made_snd_no w yb xb cv nv tv ov kv st.at_ nm px n id last site hne hy hx
    | [.p r a b], _ => simp only [madeT, h0]; exact made_snd_ok w yb xb cv nv tv ov kv st.at_ nm px n id last site hy hx r a b (by have := hl (.p r a b) (by simp); omega)
  | add =>
    match ks, har with
    | [.n, .n], _ => simp only [madeT]; rw [if_pos (by simp)]; simp only [h0]; exact made_add_ok w yb xb cv nv tv ov kv st.at_ nm px n id last site hy hx
    | [.p r a b, u], _ => simp only [madeT]; rw [if_neg (by simp)]; simp only [ee.1, ee.2]; exact made_add_p w yb xb cv nv tv ov kv st.at_ nm px n id last site hne hy hx r a b u (by have := hl (.p r a b) (by simp); omega)
    | [.n, .p r a b], _ => simp only [madeT]; rw [if_neg (by simp)]; simp only [ee.1, ee.2]; exact made_add_q w yb xb cv nv tv ov kv st.at_ nm px n id last site hne hy hx r a b
  | sub =>
    match ks, har with
    | [.n, .n], _ => simp only [madeT]; rw [if_pos (by simp)]; simp only [h0]; exact made_sub_ok w yb xb cv nv tv ov kv st.at_ nm px n id last site hy hx
    | [.p r a b, u], _ => simp only [madeT]; rw [if_neg (by simp)]; simp only [ee.1, ee.2]; exact made_sub_p w yb xb cv nv tv ov kv st.at_ nm px n id last site hne hy hx r a b u (by have := hl (.p r a b) (by simp); omega)
    | [.n, .p r a b], _ => simp only [madeT]; rw [if_neg (by simp)]; simp only [ee.1, ee.2]; exact made_sub_q w yb xb cv nv tv ov kv st.at_ nm px n id last site hne hy hx r a b
  | less =>
    match ks, har with
    | [.n, .n], _ => simp only [madeT]; rw [if_pos (by simp)]; simp only [h0]; exact made_less_ok w yb xb cv nv tv ov kv st.at_ nm px n id last site hy hx
    | [.p r a b, u], _ => simp only [madeT]; rw [if_neg (by simp)]; simp only [ee.1, ee.2]; exact made_less_p w yb xb cv nv tv ov kv st.at_ nm px n id last site hne hy hx r a b u (by have := hl (.p r a b) (by simp); omega)
    | [.n, .p r a b], _ => simp only [madeT]; rw [if_neg (by simp)]; simp only [ee.1, ee.2]; exact made_less_q w yb xb cv nv tv ov kv st.at_ nm px n id last site hne hy hx r a b
  | if_ =>
    match ks, har with
    | [.n, b, c], _ =>
      simp only [madeT]
      by_cases hb : b.bare = c.bare
      · rw [if_pos ⟨trivial, hb⟩]; simp only [h0]; exact made_if__ok w yb xb cv nv tv ov kv st.at_ nm px n id last site hy hx b c (by have := hl b (by simp); omega) (by have := hl c (by simp); omega) hb
      · rw [if_neg (fun h => hb h.2)]; simp only [ee.1, ee.2]; exact made_if__no w yb xb cv nv tv ov kv st.at_ nm px n id last site hne hy hx b c (by have := hl b (by simp); omega) (by have := hl c (by simp); omega) hb
    | [.p r a a', b, c], _ => simp only [madeT]; rw [if_neg (by simp)]; simp only [ee.1, ee.2]; exact made_if__p w yb xb cv nv tv ov kv st.at_ nm px n id last site hne hy hx r a a' (by have := hl (.p r a a') (by simp); omega) _ _
  | loop =>
    match ks, har with
    | [.n, b, c], _ =>
      simp only [madeT]
      by_cases hb : b.bare = c.bare
      · rw [if_pos ⟨trivial, hb⟩]; simp only [h0]; exact made_loop_ok w yb xb cv nv tv ov kv st.at_ nm px n id last site hy hx b c (by have := hl b (by simp); omega) (by have := hl c (by simp); omega) hb
      · rw [if_neg (fun h => hb h.2)]; simp only [ee.1, ee.2]; exact made_loop_no w yb xb cv nv tv ov kv st.at_ nm px n id last site hne hy hx b c (by have := hl b (by simp); omega) (by have := hl c (by simp); omega) hb
    | [.p r a a', b, c], _ => simp only [madeT]; rw [if_neg (by simp)]; simp only [ee.1, ee.2]; exact made_loop_p w yb xb cv nv tv ov kv st.at_ nm px n id last site hne hy hx r a a' (by have := hl (.p r a a') (by simp); omega) _ _
  | pair =>
    match ks, har with
    | [a, b], _ =>
      simp only [madeT, h0]
      have hs := hsite rfl
      obtain ⟨gc, cc, hcv⟩ : ∃ gc cc, cv = .slice (some ⟨gc, 0, none⟩) cls.length cc := by
        rcases hc.2 with ⟨_, h⟩ | ⟨g, cap, cur, h, _⟩
        · omega
        · exact ⟨_, _, h⟩
      subst hcv
      have hcell : w.cell? ⟨gc, site, none⟩ = some (.int .i64 (cls.getD site 0 : Nat)) := by
        rw [hc.cellAt site (by omega), List.getElem?_map, List.getElem?_eq_getElem hs]
        simp [List.getD, List.getElem?_eq_getElem hs]
      exact made_pair w gc cls.length cc yb xb nv tv ov kv st.at_ nm px n id last site hy hx (cls.getD site 0) a b (by rw [List.getD_eq_getElem?_getD, List.getElem?_eq_getElem hs]; exact hc100 _ (List.getElem_mem hs)) (by have := hl a (by simp); have := hl b (by simp); omega) hs hcl hcell
end Go.Proofs.YtpicaknklgccoaaGreatDoor

namespace Go.Proofs.YtpicaknklgccoaaGreatDoor
open Go.RowKit

def kidsF (cls : List Nat) (k : Kw) (p : Nat) (kids : List PT) (id site : Nat) (env : TEnv) (st : TSt) : Ty × TSt :=
  if (tyKids cls kids (id + 1) (site + if k = .pair then 1 else 0) env st).2.e ≠ 0 then (.n, (tyKids cls kids (id + 1) (site + if k = .pair then 1 else 0) env st).2)
  else madeT cls k p site (tyKids cls kids (id + 1) (site + if k = .pair then 1 else 0) env st).1 (tyKids cls kids (id + 1) (site + if k = .pair then 1 else 0) env st).2

def kArr (ks : List Ty) : Array Value := #[.string (bs (kt ks 0)), .string (bs (kt ks 1)), .string (bs (kt ks 2))]
theorem prsL_take (ts : List PT) (i : Nat) : prsL (ts.take i) ≤ prsL ts := by
  induction ts generalizing i with
  | nil => simp
  | cons a r ih => cases i with
    | zero => simp [prsL]
    | succ i => have := ih i; simp [prsL]; omega
theorem errS_of (st : TSt) (e p : Nat) : (errS st e p).of = st.of := by unfold errS; split <;> rfl
theorem madeT_of (cls : List Nat) (k : Kw) (p site : Nat) (ks : List Ty) (st : TSt) : (madeT cls k p site ks st).2.of = st.of := by
  unfold madeT
  split <;> first | rfl | (split <;> first | rfl | exact errS_of _ _ _) | exact errS_of _ _ _
theorem kt_snoc (ks : List Ty) (t : Ty) (i : Nat) : kt (ks ++ [t]) i = if i = ks.length then t.txt else kt ks i := by
  unfold kt
  by_cases h : i = ks.length
  · subst h; simp
  · rw [if_neg h]
    rcases Nat.lt_or_ge i ks.length with h1 | h1
    · rw [List.getElem?_append_left h1]
    · rw [List.getElem?_eq_none (by simp; omega), List.getElem?_eq_none h1]
theorem kArr_snoc (ks : List Ty) (t : Ty) : (kArr ks).setIfInBounds ks.length (.string (bs t.txt)) = kArr (ks ++ [t]) := by
  unfold kArr
  rw [kt_snoc, kt_snoc, kt_snoc]
  match h : ks.length with
  | 0 => simp
  | 1 => simp
  | 2 => simp
  | n + 3 => simp

/-- a store into a block that is none of the Typing's -/
theorem TyIn.other {w0 w W : World} {yb g o : Nat} {x : Value} {cls : List Nat} {cv nv tv ov : Value} {env : TEnv} {st : TSt} (h : TyIn w0 w yb cls cv nv tv ov env st) (hg : w0.heap.size ≤ g) (hy : g ≠ yb) (hc : cv.ownBlock ≠ some g) (hn : nv.ownBlock ≠ some g) (ht : tv.ownBlock ≠ some g) (ho : ov.ownBlock ≠ some g)
    (hW : W = w.setCell ⟨g, o, none⟩ x) : TyIn w0 W yb cls cv nv tv ov env st := by
  subst hW
  have oth : ∀ b, b ≠ g → (w.setCell ⟨g, o, none⟩ x).heap[b]? = w.heap[b]? := fun b hb => blk_other _ _ (by simpa using hb)
  have keep : ∀ (v : Value) (base : Nat) (ty : TypeId) (n : Nat) (xs : List Value), w.ownsRow base ty 1 v n xs → v.ownBlock ≠ some g → (w.setCell ⟨g, o, none⟩ x).ownsRow base ty 1 v n xs :=
    fun v base ty n xs hv h1 => owns_blk hv (fun k hk => oth k (fun e => h1 (by rw [← e]; exact hk)))
  exact ⟨h.b0.setCell (p := ⟨g, o, none⟩) hg _, h.hyb, by rw [oth yb (fun e => hy e.symm)]; exact h.y, keep _ _ _ _ _ h.c hc, keep _ _ _ _ _ h.n hn, keep _ _ _ _ _ h.t ht, keep _ _ _ _ _ h.o ho, h.cy, h.ny, h.ty, h.oy, h.cn, h.ct, h.co, h.nt, h.no, h.tov⟩

set_option maxRecDepth 100000 in
set_option maxHeartbeats 4000000 in
theorem form_kids {w0 : World} {yb : Nat} {cls : List Nat} (p : Nat) (k : Kw) (nm rg : List UInt8) (kids : List PT) (hc100 : ∀ x ∈ cls, x < 100) (hcl : cls.length ≤ 9000) (hk1 : k ≠ .let_) (hk2 : k ≠ .loop) (har : kids.length = arity k)
    (hf : ∀ x ∈ kids, FindOk w0 yb cls x) : FormOk w0 yb cls (.node p k nm rg kids) (fun id site env st => kidsF cls k p kids id site env st) := by
  intro id site b F env st cv nv tv ov w hT hin hid hsite hs1 hs2 henv
  simp only [IsT] at hT
  obtain ⟨hFb, kv, bl, hblk, hF, hkv, hts⟩ := hT
  have hb := blk_lt hblk
  have hw0 := hin.b0.size
  have hbw : b < w.heap.size := by omega
  have hne : b ≠ yb := by have := hin.hyb; omega
  have hka : kids.length ≤ 3 := by rw [har]; cases k <;> decide
  have hkp : 0 < kids.length := by rw [har]; cases k <;> decide
  obtain ⟨gk, kc, hvk⟩ : ∃ gk kc, kv = .slice (some ⟨gk, 0, none⟩) kids.length kc := by
    rcases hkv.2 with ⟨_, h'⟩ | ⟨g, cap, cur, h, _⟩
    · omega
    · exact ⟨_, _, h⟩
  subst hvk
  have hbx : w.heap[b]? = some (.cells (exCells k.bytes p nm (valueL rg) (.slice (some ⟨gk, 0, none⟩) kids.length kc) id (id + cntL kids) site) 82 (0, 0)) := by rw [hin.b0.block b hb]; exact hblk
  have x0 : w.cell? ⟨b, 0, none⟩ = some (.string (bs k.bytes)) := by rw [blk_cell hbx]; rfl
  have q0 : ((bs k.bytes).toList == [110, 117, 109, 98, 101, 114]) = false := by rw [bs_beq0]; cases k <;> decide
  have q1 : ((bs k.bytes).toList == [110, 97, 109, 101]) = false := by rw [bs_beq0]; cases k <;> decide
  have q2 : ((bs k.bytes).toList == [108, 101, 116]) = false := by rw [bs_beq0]; cases k <;> first | decide | exact absurd rfl hk1
  have q3 : ((bs k.bytes).toList == [108, 111, 111, 112]) = false := by rw [bs_beq0]; cases k <;> first | decide | exact absurd rfl hk2
  have HBLK : Hid _ := hblk
  have HIN : Hid _ := hin
  have HKV : Hid (w0.ownsRow 0 63 1 (.slice (some ⟨gk, 0, none⟩) kids.length kc) kids.length (bl.map ptr)) := hkv
  have HTS : Hid _ := hts
  have hyb := hin.hyb
  simp only [PT.cnt, PT.prs] at hid hsite henv
  have HEN : Hid (envOk env st) := ⟨hs1, hs2⟩
  clear hblk hin hkv hts hbx hFb hF hs1 hs2
  show Calls _ _ #[Value.pointer (some ⟨yb, 0, none⟩), Value.pointer (some ⟨b, 0, none⟩)] w _
  obtain ⟨s1, hs1⟩ : ∃ s1, s1 = site + if k = .pair then 1 else 0 := ⟨_, rfl⟩
  have hs1c : s1 + prsL kids ≤ cls.length := by rw [hs1]; omega
  have hsp : k = .pair → site < cls.length := by intro h; rw [if_pos h] at hsite; omega
  have hkf : kidsF cls k p kids id site env st = if (tyKids cls kids (id + 1) s1 env st).2.e ≠ 0 then (.n, (tyKids cls kids (id + 1) s1 env st).2) else madeT cls k p site (tyKids cls kids (id + 1) s1 env st).1 (tyKids cls kids (id + 1) s1 env st).2 := by rw [hs1]; rfl
  have HTS1 : Hid (IsTs w0 F kids (id + 1) s1 bl) := by rw [hs1]; exact HTS.out
  have HKF : Hid _ := hkf
  have HSP : Hid _ := hsp
  have HLT : Hid ((∀ g, nv.ownBlock = some g → g < w.heap.size) ∧ (∀ g, tv.ownBlock = some g → g < w.heap.size) ∧ (∀ g, ov.ownBlock = some g → g < w.heap.size) ∧ (∀ g, cv.ownBlock = some g → g < w.heap.size) ∧ yb < w.heap.size) :=
    ⟨fun g hg => (HIN.out.n.lt g hg).2, fun g hg => (HIN.out.t.lt g hg).2, fun g hg => (HIN.out.o.lt g hg).2, fun g hg => (HIN.out.c.lt g hg).2, blk_lt HIN.out.y⟩
  have hyw : yb < w.heap.size := HLT.out.2.2.2.2
  clear hs1 hkf hsp hsite
  go_enter Tryz.func113, Tryz.ntmps113
  go_wp2
  go_loopw [7] (fun i wr => ∃ (j : Nat) (nv' tv' : Value) (ks : List Ty) (st' : TSt), j ≤ kids.length ∧ i = .int .i64 j ∧ tyKids cls (kids.take j) (id + 1) s1 env st = (ks, st') ∧
      TyIn w0 wr yb cls cv nv' tv' ov env st' ∧ Fr w wr yb nv tv ov nv' tv' ∧ nv'.ownBlock ≠ some w.heap.size ∧ tv'.ownBlock ≠ some w.heap.size ∧
      wr.heap[w.heap.size]? = some (.cells (kArr ks) 139 (0, 0))) (fun i _ => kids.length - (intOf i).toNat)
  case atStart =>
    refine ⟨0, nv, tv, [], st, by omega, rfl, by simp [tyKids], ?_, ?_, ?_, ?_, ?_⟩
    · exact HIN.out.grow ((Below.refl _ _).alloc (Nat.le_refl _) _)
    · exact Fr.below ((Below.refl _ _).alloc (Nat.le_refl _) _) _ _ _ _
    · intro e; have := HLT.out.1 _ e; omega
    · intro e; have := HLT.out.2.1 _ e; omega
    · exact blk_new _ _
  case round =>
    obtain ⟨j, nv', tv', ks, st', hj, rfl, hty, hin', hfr, hnab, htab, hka'⟩ := hrel
    have hbr : wr.heap[b]? = some (.cells (exCells k.bytes p nm (valueL rg) (.slice (some ⟨gk, 0, none⟩) kids.length kc) id (id + cntL kids) site) 82 (0, 0)) := by rw [hin'.b0.block b hb]; exact HBLK.out
    have x4 : wr.cell? ⟨b, 4, none⟩ = some (.slice (some ⟨gk, 0, none⟩) kids.length kc) := by rw [blk_cell hbr]; rfl
    have y4 : wr.cell? ⟨yb, 4, none⟩ = some (.int .i64 (st'.e : Nat)) := by rw [blk_cell hin'.y]; rfl
    have hok := tyKids_ok cls hc100 (kids.take j) (id + 1) s1 env st HEN.out
    rw [hty] at hok
    have hlk : ks.length = j := by have := tyKids_len cls (kids.take j) (id + 1) s1 env st; rw [hty] at this; simp only at this; rw [this]; simp; omega
    have HTY : Hid _ := hty
    have HINr : Hid (TyIn w0 wr yb cls cv nv' tv' ov env st') := hin'
    have HFR : Hid (Fr w wr yb nv tv ov nv' tv') := hfr
    have HOK : Hid _ := hok
    have HKA : Hid _ := hka'
    have hab := blk_lt hka'
    have HNT : Hid (nv'.ownBlock ≠ some w.heap.size ∧ tv'.ownBlock ≠ some w.heap.size) := ⟨hnab, htab⟩
    have HBR : Hid _ := hbr
    by_cases hlt : j < kids.length
    · obtain ⟨x, hx⟩ : ∃ x, kids[j]? = some x := ⟨kids[j], List.getElem?_eq_getElem hlt⟩
      obtain ⟨bx, hbx, hTx⟩ := IsTs.at _ _ _ _ HTS1.out j x hx
      have hkc : w0.cell? ⟨gk, j, none⟩ = some (ptr bx) := by rw [HKV.out.cellAt j (by omega)]; simp [hbx]
      have hgkw : gk < w0.heap.size := World.block_lt_of_cell? _ _ hkc
      have hkcr : wr.cell? ⟨gk, j, none⟩ = some (.pointer (some ⟨bx, 0, none⟩)) := (hin'.b0.cell (p := ⟨gk, j, none⟩) hgkw).trans hkc
      have htk : kids.take (j + 1) = kids.take j ++ [x] := by rw [List.take_add_one, hx]; rfl
      have hct : cntL (kids.take j) + x.cnt ≤ cntL kids := by have h := cntL_take kids (j + 1); rw [htk, cntL_snoc] at h; exact h
      have hpt : prsL (kids.take j) + x.prs ≤ prsL kids := by have h := prsL_take kids (j + 1); rw [htk, prsL_snoc] at h; exact h
      have hsn := tyKids_snoc cls (kids.take j) x (id + 1) s1 env st
      rw [← htk, hty] at hsn
      have HSN : Hid _ := hsn
      have hofl : st'.of.length = st.of.length := hok.2.2
      have heo : envOk env st' := HEN.out.on (fun h0 => (hok.2.1 h0).1)
      have hfo := hf x (List.mem_of_getElem? hx) (id + 1 + cntL (kids.take j)) (s1 + prsL (kids.take j)) bx F env st' cv nv' tv' ov wr hTx hin' (by omega) (by omega) heo.1 heo.2 (by omega)
      unfold ptr at hfo
      obtain ⟨R, hR⟩ : ∃ R, R = tyFind cls x (id + 1 + cntL (kids.take j)) (s1 + prsL (kids.take j)) env st' := ⟨_, rfl⟩
      rw [← hR] at hfo
      have hsn2 := HSN.out
      simp only at hsn2
      rw [← hR] at hsn2
      have HSN2 : Hid (tyKids cls (kids.take (j + 1)) (id + 1) s1 env st = (ks ++ [R.1], R.2)) := hsn2
      clear hsn hsn2 HSN hR hin' hfr hka' hty hok hofl heo hbr hbx hTx hkc htk hct hpt hx y4 hnab htab
      go_wp2_with fail
      refine hfo.mono ?_
      rintro e w2 ⟨rfl, nv2, tv2, hfr2, hin2⟩
      have hsz2 := hfr2.size
      have hn2 : nv2.ownBlock ≠ some w.heap.size := by
        intro e
        rcases hfr2.n _ e with e | e
        · exact HNT.out.1 e
        · omega
      have ht2 : tv2.ownBlock ≠ some w.heap.size := by
        intro e
        rcases hfr2.t _ e with e | e
        · exact HNT.out.2 e
        · omega
      have ho2 : ov.ownBlock ≠ some w.heap.size := fun e => by have := HLT.out.2.2.1 _ e; omega
      have hc2 : cv.ownBlock ≠ some w.heap.size := fun e => by have := HLT.out.2.2.2.1 _ e; omega
      have hka2 : w2.heap[w.heap.size]? = some (.cells (kArr ks) 139 (0, 0)) := by
        rw [hfr2.blk _ hab (by omega) HNT.out.1 HNT.out.2 ho2]; exact HKA.out
      obtain ⟨ov0, hov0⟩ : ∃ ov0, w2.cell? ⟨w.heap.size, j, none⟩ = some ov0 := by
        rw [blk_cell hka2]
        match j, (by omega : j < 3) with
        | 0, _ => exact ⟨_, rfl⟩
        | 1, _ => exact ⟨_, rfl⟩
        | 2, _ => exact ⟨_, rfl⟩
      have hfz : w2.frozen? ⟨w.heap.size, j, none⟩ = false := blk_free hka2 j
      have hWin := TyIn.other (W := w2.setCell ⟨w.heap.size, j, none⟩ (.string (bs R.1.txt))) hin2 hw0 (by omega) hc2 hn2 ht2 ho2 rfl
      have hWfr : Fr w (w2.setCell ⟨w.heap.size, j, none⟩ (.string (bs R.1.txt))) yb nv tv ov nv2 tv2 := by
        have h := HFR.out.trans hfr2
        refine ⟨by have := h.size; simp [World.setCell]; exact this, ?_, h.n, h.t⟩
        intro q hq hy hn ht ho
        rw [blk_other _ _ (by simp only; omega)]
        exact h.blk q hq hy hn ht ho
      have hWka : (w2.setCell ⟨w.heap.size, j, none⟩ (.string (bs R.1.txt))).heap[w.heap.size]? = some (.cells (kArr (ks ++ [R.1])) 139 (0, 0)) := by
        have h := blk_set hka2 j (.string (bs R.1.txt))
        rw [← kArr_snoc, hlk]; exact h
      have HW : Hid _ := And.intro hWin (And.intro hWfr hWka)
      have HN2 : Hid (nv2.ownBlock ≠ some w.heap.size ∧ tv2.ownBlock ≠ some w.heap.size) := ⟨hn2, ht2⟩
      clear hWin hWfr hWka hka2 hin2 hfr2 hn2 ht2 ho2 hc2 hfo
      go_wp2
      go_roundw
      case rel => exact ⟨j + 1, nv2, tv2, ks ++ [R.1], R.2, by omega, by go_num, HSN2.out, HW.out.1, HW.out.2.1, HN2.out.1, HN2.out.2, HW.out.2.2⟩
      case measure => simp [intOf]; omega
    · have hjl : kids.take j = kids := by rw [List.take_of_length_le (by omega)]
      rw [hjl] at hty
      have hkf := HKF.out
      rw [hty] at hkf
      simp only at hkf
      have HKF2 : Hid (kidsF cls k p kids id site env st = if st'.e ≠ 0 then (.n, st') else madeT cls k p site ks st') := hkf
      have a0 : wr.cell? ⟨w.heap.size, 0, none⟩ = some (.string (bs (kt ks 0))) := by rw [blk_cell hka']; rfl
      have a1 : wr.cell? ⟨w.heap.size, 1, none⟩ = some (.string (bs (kt ks 1))) := by rw [blk_cell hka']; rfl
      have a2 : wr.cell? ⟨w.heap.size, 2, none⟩ = some (.string (bs (kt ks 2))) := by rw [blk_cell hka']; rfl
      by_cases h0 : st'.e = 0
      · have hmd := made_any wr yb b cls cv nv' tv' ov _ st' nm p (valueL rg) id (id + cntL kids) site w0.heap.size k ks hne h0 hin'.y hbr hin'.c hcl hc100 HSP.out hk1 (by omega) hok.1
        unfold ptr at hmd
        have y40 : wr.cell? ⟨yb, 4, none⟩ = some (.int .i64 0) := by rw [y4, h0]; rfl
        have HFIN : Hid (kidsF cls k p kids id site env st = madeT cls k p site ks st') := by rw [HKF2.out, if_neg (by simpa using h0)]; rfl
        clear y4 h0 hin' hfr hka' hty hok hbr hkf hnab htab hjl
        go_wp2_with (go_at_call 144; refine hmd.mono ?_; rintro e w2 ⟨rfl, hg2, hy2⟩)
        go_ret
        rw [HFIN.out]
        refine ⟨rfl, nv', tv', HFR.out.trans (Fr.grown hg2 _ _ _), ?_⟩
        have h := HINr.out.err hg2 hy2
        have hof : (madeT cls k p site ks st').2.of = st'.of := madeT_of _ _ _ _ _ _
        rw [← hof] at h
        exact h
      · have h0' : ((st'.e : Int) != 0) = true := by rw [bne_iff_ne]; omega
        have HFIN : Hid (kidsF cls k p kids id site env st = (.n, st')) := by rw [HKF2.out, if_pos h0]; rfl
        clear h0 hin' hfr hka' hty hok hbr hkf hnab htab hjl
        go_wp2
        go_ret
        rw [HFIN.out]
        exact ⟨rfl, nv', tv', HFR.out, HINr.out⟩
end Go.Proofs.YtpicaknklgccoaaGreatDoor
