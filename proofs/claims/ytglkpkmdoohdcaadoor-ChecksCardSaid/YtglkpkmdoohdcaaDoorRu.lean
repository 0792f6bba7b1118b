import Derived.Test.YtglkpkmdoohdcaaDoorRt
namespace Go.Proofs.YtglkpkmdoohdcaaDoor
open Go.RowKit

def kt (ks : List Ty) (i : Nat) : List UInt8 := match ks[i]? with
  | some t => t.txt
  | none => []
def arity (k : Kw) : Nat := match k with
  | .let_ => 2
  | .pair => 2
  | .fst => 1
  | .snd => 1
  | .if_ => 3
  | .add => 2
  | .sub => 2
  | .less => 2
  | .loop => 3
  | .new => 1

theorem made_any (w : World) (yb xb : Nat) (cls : List Nat) (cv nv tv ov kv : Value) (st : TSt) (nm : List UInt8) (px : Nat) (n : Int) (id last site : Nat) (base : Nat) (k : Kw) (ks : List Ty) (hne : xb ≠ yb) (h0 : st.e = 0)
    (hy : w.heap[yb]? = some (.cells (tyCells cv nv tv ov st.e st.at_) 86 (0, 0)))
    (hx : w.heap[xb]? = some (.cells (exCells k.bytes px nm n kv id last site) 82 (0, 0)))
    (hc : w.ownsRow base 3 1 cv cls.length (cls.map fun (k : Nat) => Value.int .i64 k)) (hcl : cls.length ≤ 9000) (hc100 : ∀ x ∈ cls, x < 100) (hsite : k = .pair → site < cls.length)
    (hk : k ≠ .let_) (har : ks.length = arity k) (hfit : ∀ t ∈ ks, t.fit) :
    Calls Tryd.prog 101 #[ptr yb, ptr xb, .agg #[.string (bs (kt ks 0)), .string (bs (kt ks 1)), .string (bs (kt ks 2))]] w fun v w' =>
      v = .returned (.string (bs (madeT cls k px site ks st).1.txt)) ∧ w.grownBy w' (some yb) ∧ w'.heap[yb]? = some (.cells (tyCells cv nv tv ov (madeT cls k px site ks st).2.e (madeT cls k px site ks st).2.at_) 86 (0, 0)) := by
  have hl : ∀ t ∈ ks, t.txt.length ≤ 1000 := fun t ht => fit_len (hfit t ht)
  rw [h0] at hy
  have ee : (errS st 5 px).e = 5 ∧ (errS st 5 px).at_ = px := by unfold errS; rw [if_pos h0]; exact ⟨rfl, rfl⟩
  cases k with
  | let_ => exact absurd rfl hk
  | new =>
    match ks, har with
    | [a], _ =>
      simp only [madeT, h0]
      exact made_new w yb xb cv nv tv ov kv st.at_ nm px n id last site hy hx a (by have := hl a (by simp); omega)
  | fst =>
    match ks, har with
    | [.n], _ => simp only [madeT, ee.1, ee.2]; exact made_fst_no w yb xb cv nv tv ov kv st.at_ nm px n id last site hne hy hx
    | [.p r a b], _ => simp only [madeT, h0]; exact made_fst_ok w yb xb cv nv tv ov kv st.at_ nm px n id last site hy hx r a b (by have := hl (.p r a b) (by simp); omega)
  | snd =>
    match ks, har with
    | [.n], _ => simp only [madeT, ee.1, ee.2]; exact made_snd_no w yb xb cv nv tv ov kv st.at_ nm px n id last site hne hy hx
    | [.p r a b], _ => simp only [madeT, h0]; exact made_snd_ok w yb xb cv nv tv ov kv st.at_ nm px n id last site hy hx r a b (by have := hl (.p r a b) (by simp); omega)
  | add =>
    match ks, har with
    | [.n, .n], _ => simp only [madeT]; rw [if_pos (by simp)]; simp only [h0]; exact made_add_ok w yb xb cv nv tv ov kv st.at_ nm px n id last site hy hx
    | [.p r a b, u], _ => simp only [madeT]; rw [if_neg (by simp)]; simp only [ee.1, ee.2]; exact made_add_p w yb xb cv nv tv ov kv st.at_ nm px n id last site hne hy hx r a b u (by have := hl (.p r a b) (by simp); omega)
    | [.n, .p r a b], _ => simp only [madeT]; rw [if_neg (by simp)]; simp only [ee.1, ee.2]; exact made_add_q w yb xb cv nv tv ov kv st.at_ nm px n id last site hne hy hx r a b
  | sub =>
    match ks, har with
    | [.n, .n], _ => simp only [madeT]; rw [if_pos (by simp)]; simp only [h0]; exact made_sub_ok w yb xb cv nv tv ov kv st.at_ nm px n id last site hy hx
    | [.p r a b, u], _ => simp only [madeT]; rw [if_neg (by simp)]; simp only [ee.1, ee.2]; exact made_sub_p w yb xb cv nv tv ov kv st.at_ nm px n id last site hne hy hx r a b u (by have := hl (.p r a b) (by simp); omega)
    | [.n, .p r a b], _ => simp only [madeT]; rw [if_neg (by simp)]; simp only [ee.1, ee.2]; exact made_sub_q w yb xb cv nv tv ov kv st.at_ nm px n id last site hne hy hx r a b
  | less =>
    match ks, har with
    | [.n, .n], _ => simp only [madeT]; rw [if_pos (by simp)]; simp only [h0]; exact made_less_ok w yb xb cv nv tv ov kv st.at_ nm px n id last site hy hx
    | [.p r a b, u], _ => simp only [madeT]; rw [if_neg (by simp)]; simp only [ee.1, ee.2]; exact made_less_p w yb xb cv nv tv ov kv st.at_ nm px n id last site hne hy hx r a b u (by have := hl (.p r a b) (by simp); omega)
    | [.n, .p r a b], _ => simp only [madeT]; rw [if_neg (by simp)]; simp only [ee.1, ee.2]; exact made_less_q w yb xb cv nv tv ov kv st.at_ nm px n id last site hne hy hx r a b
  | if_ =>
    match ks, har with
    | [.n, b, c], _ =>
      simp only [madeT]
      by_cases hb : b.bare = c.bare
      · rw [if_pos ⟨trivial, hb⟩]; simp only [h0]; exact made_if__ok w yb xb cv nv tv ov kv st.at_ nm px n id last site hy hx b c (by have := hl b (by simp); omega) (by have := hl c (by simp); omega) hb
      · rw [if_neg (fun h => hb h.2)]; simp only [ee.1, ee.2]; exact made_if__no w yb xb cv nv tv ov kv st.at_ nm px n id last site hne hy hx b c (by have := hl b (by simp); omega) (by have := hl c (by simp); omega) hb
    | [.p r a a', b, c], _ => simp only [madeT]; rw [if_neg (by simp)]; simp only [ee.1, ee.2]; exact made_if__p w yb xb cv nv tv ov kv st.at_ nm px n id last site hne hy hx r a a' (by have := hl (.p r a a') (by simp); omega) _ _
  | loop =>
    match ks, har with
    | [.n, b, c], _ =>
      simp only [madeT]
      by_cases hb : b.bare = c.bare
      · rw [if_pos ⟨trivial, hb⟩]; simp only [h0]; exact made_loop_ok w yb xb cv nv tv ov kv st.at_ nm px n id last site hy hx b c (by have := hl b (by simp); omega) (by have := hl c (by simp); omega) hb
      · rw [if_neg (fun h => hb h.2)]; simp only [ee.1, ee.2]; exact made_loop_no w yb xb cv nv tv ov kv st.at_ nm px n id last site hne hy hx b c (by have := hl b (by simp); omega) (by have := hl c (by simp); omega) hb
    | [.p r a a', b, c], _ => simp only [madeT]; rw [if_neg (by simp)]; simp only [ee.1, ee.2]; exact made_loop_p w yb xb cv nv tv ov kv st.at_ nm px n id last site hne hy hx r a a' (by have := hl (.p r a a') (by simp); omega) _ _
  | pair =>
    match ks, har with
    | [a, b], _ =>
      simp only [madeT, h0]
      have hs := hsite rfl
      obtain ⟨gc, cc, hcv⟩ : ∃ gc cc, cv = .slice (some ⟨gc, 0, none⟩) cls.length cc := by
        rcases hc.2 with ⟨_, h⟩ | ⟨g, cap, cur, h, _⟩
        · omega
        · exact ⟨_, _, h⟩
      subst hcv
      have hcell : w.cell? ⟨gc, site, none⟩ = some (.int .i64 (cls.getD site 0 : Nat)) := by
        rw [hc.cellAt site (by omega), List.getElem?_map, List.getElem?_eq_getElem hs]
        simp [List.getD, List.getElem?_eq_getElem hs]
      exact made_pair w gc cls.length cc yb xb nv tv ov kv st.at_ nm px n id last site hy hx (cls.getD site 0) a b (by rw [List.getD_eq_getElem?_getD, List.getElem?_eq_getElem hs]; exact hc100 _ (List.getElem_mem hs)) (by have := hl a (by simp); have := hl b (by simp); omega) hs hcl hcell
end Go.Proofs.YtglkpkmdoohdcaaDoor
