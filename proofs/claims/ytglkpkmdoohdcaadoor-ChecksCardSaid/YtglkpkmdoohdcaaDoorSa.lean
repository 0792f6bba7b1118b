import Derived.Test.YtglkpkmdoohdcaaDoorRj
import Derived.Test.YtglkpkmdoohdcaaDoorRz
namespace Go.Proofs.YtglkpkmdoohdcaaDoor
open Go.RowKit

mutual
theorem PE.good {placed : Bool} {ts : List Tk} (hok : TokOk ts) (hkw : ∀ t ∈ ts, ∀ k, t.c = .kw k → t.s = k.bytes) (hl : ts.length ≤ 9000) : ∀ {l : List Tk} {e : PT} {r : List Tk}, PE placed l e r → GoodE ts l e r
  | _, _, _, .num (t := t) (r := r) h => by
    refine ⟨(PE.used (.num (placed := placed) h)).1, (PE.used (.num (placed := placed) h)).2, ⟨t, r, rfl, Or.inl h⟩, ⟨1, rfl, by simp⟩, ?_⟩
    intro gt tc cb p ids sites w hd hi hs hin
    obtain ⟨h1, h2, _⟩ := drop_at hd
    have e : (t :: r).length - r.length = 1 := by simp
    rw [e]
    exact build_num ts hok hl gt tc cb p ids sites t w hin h1 h2 (by omega) h
  | _, _, _, .name (t := t) (r := r) h => by
    refine ⟨(PE.used (.name (placed := placed) h)).1, (PE.used (.name (placed := placed) h)).2, ⟨t, r, rfl, Or.inr (Or.inl h)⟩, ⟨1, rfl, by simp⟩, ?_⟩
    intro gt tc cb p ids sites w hd hi hs hin
    obtain ⟨h1, h2, _⟩ := drop_at hd
    have e : (t :: r).length - r.length = 1 := by simp
    rw [e]
    exact build_name ts hl gt tc cb p ids sites t w hin h1 h2 (by omega) h
  | _, _, _, .node (t := t) (u := u) (k := k) (r := r0) (r' := r') (nm := nm) (rg := rg) (kids := kids) h1 h2 h3 h4 => by
    have hp := PW.good hok hkw hl h4
    have hpe : PE placed (t :: u :: r0) (.node t.at_ k nm rg kids) r' := .node h1 h2 h3 h4
    refine ⟨hpe.used.1, hpe.used.2, ⟨t, _, rfl, Or.inr (Or.inr h1)⟩, hpe.drop, ?_⟩
    intro gt tc cb p ids sites w hd hi hs hin
    obtain ⟨a1, a2, a3⟩ := drop_at hd
    obtain ⟨b1, b2, b3⟩ := drop_at a3.symm
    have hn := build_node ts hok hl placed gt tc cb p ids sites t u k w hin a1 b1 b2 hi hs h3 h1 (hkw u (List.mem_of_getElem? b1) k h2) nm rg kids r' (by rw [← b3]; exact hp)
    rw [hd] at hn
    exact hn
theorem PW.good {placed : Bool} {ts : List Tk} (hok : TokOk ts) (hkw : ∀ t ∈ ts, ∀ k, t.c = .kw k → t.s = k.bytes) (hl : ts.length ≤ 9000) : ∀ {ws : List Wt} {l : List Tk} {nm rg : List UInt8} {kids : List PT} {r : List Tk}, PW placed ws l nm rg kids r → PWx (GoodE ts) ws l nm rg kids r
  | _, _, _, _, _, _, .nil => .nil
  | _, _, _, _, _, _, .close h h1 => .close h (PW.good hok hkw hl h1)
  | _, _, _, _, _, _, .name h h1 => .name h (PW.good hok hkw hl h1)
  | _, _, _, _, _, _, .region h h1 => .region h (PW.good hok hkw hl h1)
  | _, _, _, _, _, _, .e h h1 => .e (PE.good hok hkw hl h) (PW.good hok hkw hl h1)
end

theorem tokens_ok (l : List UInt8) : TokOk (tokens l) := ⟨fun _ h hc => toks_num h hc, fun _ h hc => toks_reg h hc, fun _ h _ => toks_ne h⟩
theorem tokens_kw (l : List UInt8) : ∀ t ∈ tokens l, ∀ k, t.c = .kw k → t.s = k.bytes := fun _ h _ hc => toks_kw h hc

mutual
theorem PE.wf {placed : Bool} : ∀ {l : List Tk} {e : PT} {r : List Tk}, PE placed l e r → e.wf
  | _, _, _, .num _ => by simp [PT.wf]
  | _, _, _, .name _ => by simp [PT.wf]
  | _, _, _, .node (k := k) _ _ h3 h4 => by
    simp only [PT.wf]
    refine ⟨?_, PW.wfl h4⟩
    rw [PW.kids_len h4]
    cases k <;> cases placed <;> first | decide | exact absurd rfl h3
theorem PW.wfl {placed : Bool} : ∀ {ws : List Wt} {l : List Tk} {nm rg : List UInt8} {kids : List PT} {r : List Tk}, PW placed ws l nm rg kids r → wfL kids
  | _, _, _, _, _, _, .nil => by simp [wfL]
  | _, _, _, _, _, _, .close _ h1 => PW.wfl h1
  | _, _, _, _, _, _, .name _ h1 => PW.wfl h1
  | _, _, _, _, _, _, .region _ h1 => PW.wfl h1
  | _, _, _, _, _, _, .e h h1 => by simp only [wfL]; exact ⟨PE.wf h, PW.wfl h1⟩
end

set_option maxRecDepth 100000 in
set_option maxHeartbeats 1000000 in
theorem Build_any (s : ByteArray) (placed : Bool) (e : PT) (w : World) (hs : s.size ≤ 9000) (hp : PE placed (tokens s.data.toList) e []) :
    Calls Tryd.prog 23 #[.string s] w fun v w' => ∃ b, v = .returned (ptr b) ∧ Below w.heap.size w w' ∧ IsT w' (fun k => k < w'.heap.size) e 0 0 b := by
  have htl : (tokens s.data.toList).length ≤ 9000 := by
    have := toks_len s.data.toList.length 0 s.data.toList
    rw [size_list] at this
    unfold tokens; rw [size_list]; omega
  have hg := (PE.good (tokens_ok _) (tokens_kw _) htl hp).2.2.2.2
  have htk := Tokens_any s
  obtain ⟨ts, hts⟩ : ∃ ts, ts = tokens s.data.toList := ⟨_, rfl⟩
  rw [← hts] at hg htk
  have hne : 0 < ts.length := by
    obtain ⟨t, r', h, _⟩ := hp.suffix
    rw [hts, h]; simp
  clear hts hp htl
  go_enter Tryd.func23, Tryd.ntmps23
  go_wp2_with fail
  refine (htk _ hs).mono ?_
  rintro e' w1 ⟨tv, rfl, htown, htb⟩
  obtain ⟨gt, tc, htv⟩ : ∃ gt tc, tv = .slice (some ⟨gt, 0, none⟩) ts.length tc := by
    rcases htown.2 with ⟨_, h⟩ | ⟨g, cap, cur, h, _⟩
    · omega
    · exact ⟨_, _, h⟩
  subst htv
  have hgt := htown.lt gt rfl
  have hin : BIn ts gt tc w1.heap.size 0 0 0 (w1.alloc (.cells (cntCells (.slice (some ⟨gt, 0, none⟩) ts.length tc) 0 0 0) 99)) :=
    ⟨by omega, blk_new _ _, (owns_base htown (fun _ _ => Nat.zero_le _)).alloc _⟩
  have hca := hg gt tc w1.heap.size 0 0 0 _ (by simp) (Nat.le_refl _) (Nat.le_refl _) hin
  have HTB : Hid (Below w.heap.size w w1) := htb
  have hw1 := htb.size
  unfold ptr at hca
  clear htown hin htb hg htk
  go_wp2_with fail
  refine hca.mono ?_
  rintro e' w2 ⟨b, rfl, hc2, hg2, hT2⟩
  unfold ptr
  go_wp2
  go_ret
  have hsz := hg2.size
  refine ⟨b, rfl, ?_, ?_⟩
  · refine HTB.out.trans ⟨hg2.os, hg2.tape, hg2.output, by simp at hsz; omega, fun k hk => ?_⟩
    rw [hg2.block k (by simp; omega) (fun e => by cases e; omega), Below.heap_alloc _ _ _ (by omega)]
  · exact IsT.keep (fun k hk => hk.2) (fun _ _ => rfl) _ _ _ _ hT2
end Go.Proofs.YtglkpkmdoohdcaaDoor
