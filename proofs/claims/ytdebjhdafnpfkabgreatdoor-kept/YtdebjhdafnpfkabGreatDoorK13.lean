import Derived.Test.YtdebjhdafnpfkabGreatDoorK12
import Derived.Test.YtdebjhdafnpfkabGreatDoorK02
namespace Go.Proofs.YtdebjhdafnpfkabGreatDoor
set_option linter.unusedVariables false
set_option linter.unusedSimpArgs false
def hdrs : List It → List ByteArray
  | [] => []
  | t :: r => if t.k = 91 then jn t.path :: hdrs r else hdrs r
def prs : List It → List ByteArray
  | [] => []
  | t :: r => if t.k = 61 then jn t.full :: prs r else prs r
theorem hdrs_snoc (t : It) : ∀ l : List It, hdrs (l ++ [t]) = if t.k = 91 then hdrs l ++ [jn t.path] else hdrs l
  | [] => by simp [hdrs]
  | a :: l => by
    simp only [List.cons_append, hdrs, hdrs_snoc t l]
    split <;> split <;> rfl
theorem prs_snoc (t : It) : ∀ l : List It, prs (l ++ [t]) = if t.k = 61 then prs l ++ [jn t.full] else prs l
  | [] => by simp [prs]
  | a :: l => by
    simp only [List.cons_append, prs, prs_snoc t l]
    split <;> split <;> rfl
theorem hdrs_len : ∀ l : List It, (hdrs l).length ≤ l.length
  | [] => Nat.le_refl _
  | a :: l => by
    have := hdrs_len l
    simp only [hdrs]
    split <;> simp only [List.length_cons] <;> omega
theorem prs_len : ∀ l : List It, (prs l).length ≤ l.length
  | [] => Nat.le_refl _
  | a :: l => by
    have := prs_len l
    simp only [prs]
    split <;> simp only [List.length_cons] <;> omega
/-- A line that was read, as it must be. -/
structure ItOk (t : It) : Prop where
  h : t.k = 91 → vpath t.path ∧ (jn t.path).size ≤ 4000
  p : t.k = 61 → vpath t.path ∧ vpath t.full ∧ (jn t.full).size ≤ 8001
  k : t.k = 91 ∨ t.k = 61 ∨ (t.k = 32 ∧ t.rem.size = 0) ∨ (t.k = 35 ∧ t.rem.size ≠ 0)
def ItsOk (l : List It) : Prop := ∀ t ∈ l, ItOk t
theorem ItsOk.snoc {l : List It} {t : It} (h : ItsOk l) (ht : ItOk t) : ItsOk (l ++ [t]) := by
  intro u hu
  rcases List.mem_append.1 hu with h1 | h1
  · exact h u h1
  · rw [List.mem_singleton.1 h1]; exact ht
theorem hdrs_size {l : List It} (h : ItsOk l) : ∀ p ∈ hdrs l, p.size ≤ 9000 := by
  induction l with
  | nil => intro p hp; simp [hdrs] at hp
  | cons a l ih =>
    intro p hp
    simp only [hdrs] at hp
    have ih := ih (fun t ht => h t (by simp [ht]))
    split at hp
    · rename_i hk
      rcases List.mem_cons.1 hp with rfl | hp
      · have := ((h a (by simp)).h hk).2; omega
      · exact ih p hp
    · exact ih p hp
theorem prs_size {l : List It} (h : ItsOk l) : ∀ p ∈ prs l, p.size ≤ 9000 := by
  induction l with
  | nil => intro p hp; simp [prs] at hp
  | cons a l ih =>
    intro p hp
    simp only [prs] at hp
    have ih := ih (fun t ht => h t (by simp [ht]))
    split at hp
    · rename_i hk
      rcases List.mem_cons.1 hp with rfl | hp
      · have := ((h a (by simp)).p hk).2.2; omega
      · exact ih p hp
    · exact ih p hp
def hdrNo (H P : List ByteArray) (p : ByteArray) : Bool := H.any (fun h => decide (h = p)) || P.any (fun q => bgB p q)
def pairNo (H P : List ByteArray) (p : ByteArray) : Bool := P.any (fun q => bgB p q || bgB q p) || H.any (fun h => bgB h p)
theorem bgB_jn {P H : List ByteArray} (hp : vpath P) (hh : vpath H) : bgB (jn P) (jn H) = rstarts P H := bgl_jn H P hp hh
theorem eq_starts (P H : List ByteArray) : (decide (P.length = H.length) && rstarts P H) = decide (H = P) := by
  rw [Bool.eq_iff_iff]
  simp only [Bool.and_eq_true, decide_eq_true_eq]
  constructor
  · rintro ⟨h1, h2⟩; exact (rstarts_len h2 h1).symm
  · rintro rfl
    exact ⟨rfl, by simp [rstarts]⟩
/-- A header is refused by both alike. -/
theorem twice_hdr {path : List ByteArray} (hp : vpath path) : ∀ {l : List It}, ItsOk l → rtwice l ⟨91, path, [], V0, ⟨#[]⟩⟩ = hdrNo (hdrs l) (prs l) (jn path)
  | [], _ => rfl
  | o :: l, h => by
    have ih := twice_hdr hp (l := l) (fun t ht => h t (by simp [ht]))
    have ho := h o (by simp)
    unfold rtwice at *
    unfold hdrNo at *
    rw [List.any_cons, ih]
    have hc : rclash ⟨91, path, [], V0, ⟨#[]⟩⟩ o = ((decide (o.k = 91) && (decide (path.length = o.path.length) && rstarts path o.path)) || (decide (o.k = 61) && rstarts path o.full)) := by
      unfold rclash
      simp only [true_and, Nat.reduceEqDiff, false_and, decide_false, Bool.false_and, Bool.or_false, Bool.decide_and, Bool.and_assoc]
    rw [hc]
    simp only [hdrs, prs]
    by_cases k1 : o.k = 91
    · have k2 : ¬ o.k = 61 := by omega
      rw [if_pos k1, if_neg k2, List.any_cons, decide_eq_true k1, decide_eq_false k2, Bool.true_and, Bool.false_and, Bool.or_false, eq_starts]
      have : decide (o.path = path) = decide (jn o.path = jn path) := by
        rw [Bool.eq_iff_iff, decide_eq_true_eq, decide_eq_true_eq, jn_inj (ho.h k1).1 hp]
      rw [this, Bool.or_assoc]
    · rw [if_neg k1, decide_eq_false k1, Bool.false_and, Bool.false_or]
      by_cases k2 : o.k = 61
      · rw [if_pos k2, List.any_cons, decide_eq_true k2, Bool.true_and, bgB_jn hp (ho.p k2).2.1]
        cases rstarts path o.full <;> cases (List.any (hdrs l) fun h => decide (h = jn path)) <;> rfl
      · rw [if_neg k2, decide_eq_false k2, Bool.false_and, Bool.false_or]
/-- A pair is refused by both alike. -/
theorem twice_pair {path full : List ByteArray} {v : V} (hp : vpath full) : ∀ {l : List It}, ItsOk l → rtwice l ⟨61, path, full, v, ⟨#[]⟩⟩ = pairNo (hdrs l) (prs l) (jn full)
  | [], _ => rfl
  | o :: l, h => by
    have ih := twice_pair (path := path) (v := v) hp (l := l) (fun t ht => h t (by simp [ht]))
    have ho := h o (by simp)
    unfold rtwice at *
    unfold pairNo at *
    rw [List.any_cons, ih]
    have hc : rclash ⟨61, path, full, v, ⟨#[]⟩⟩ o = ((decide (o.k = 61) && (rstarts full o.full || rstarts o.full full)) || (decide (o.k = 91) && rstarts o.path full)) := by
      unfold rclash
      simp only [true_and, Nat.reduceEqDiff, false_and, decide_false, Bool.false_and, Bool.false_or]
    rw [hc]
    simp only [hdrs, prs]
    by_cases k1 : o.k = 91
    · have k2 : ¬ o.k = 61 := by omega
      rw [if_pos k1, if_neg k2, List.any_cons, decide_eq_true k1, decide_eq_false k2, Bool.true_and, Bool.false_and, Bool.false_or, bgB_jn (ho.h k1).1 hp]
      cases rstarts o.path full <;> cases (List.any (prs l) fun q => bgB (jn full) q || bgB q (jn full)) <;> rfl
    · rw [if_neg k1, decide_eq_false k1, Bool.false_and, Bool.or_false]
      by_cases k2 : o.k = 61
      · rw [if_pos k2, List.any_cons, decide_eq_true k2, Bool.true_and, bgB_jn hp (ho.p k2).2.1, bgB_jn (ho.p k2).2.1 hp]
        simp only [Bool.or_assoc]
      · rw [if_neg k2, decide_eq_false k2, Bool.false_and, Bool.false_or]
theorem rtable_snoc (t : It) (l : List It) : rtable (l ++ [t]) = if t.k = 91 then t.path else rtable l := by
  unfold rtable
  rw [List.reverse_append]
  simp only [List.reverse_cons, List.reverse_nil, List.nil_append, List.singleton_append, List.find?_cons]
  by_cases h : t.k = 91
  · simp [h]
  · simp [h]
theorem rtable_ok {l : List It} (h : ItsOk l) : rtable l = [] ∨ (vpath (rtable l) ∧ (jn (rtable l)).size ≤ 4000) := by
  unfold rtable
  split
  · rename_i o ho
    have hm : o ∈ l := by simpa using List.mem_of_find?_eq_some ho
    have hk : o.k = 91 := by simpa using List.find?_some ho
    exact .inr ((h o hm).h hk)
  · exact .inl rfl
/-- A path that was read is one. -/
theorem letters_ok (s : ByteArray) : ∀ (n a : Nat) (i : Nat), a ≤ i → i < skip letterB s n a → letterB (bt s i) = true
  | 0, a, i, h1, h2 => by
    have : skip letterB s 0 a = a := rfl
    omega
  | n + 1, a, i, h1, h2 => by
    unfold skip at h2
    split at h2
    · rename_i hc
      by_cases e : i = a
      · subst e; exact hc.2
      · exact letters_ok s n (a + 1) i (by omega) h2
    · omega
theorem nm_ok {s : ByteArray} {x : St} (he : x.e = 0) (ha : x.a ≤ s.size) (hy : x.a < scan letterB s x.a) (hle : scan letterB s x.a ≤ s.size) : nmOk (s.extract x.a (scan letterB s x.a)) := by
  have hsz := size_ext s x.a _ hle
  refine ⟨by omega, fun hm => ?_⟩
  obtain ⟨i, hi⟩ := List.getElem?_of_mem hm
  have hl : (s.extract x.a (scan letterB s x.a)).data.toList.length = (s.extract x.a (scan letterB s x.a)).size := Array.length_toList
  have hil : i < (s.extract x.a (scan letterB s x.a)).size := by
    rw [← hl]
    exact (List.getElem?_eq_some_iff.1 hi).1
  obtain ⟨b, hb1, hb2⟩ := bt_list (s.extract x.a (scan letterB s x.a)) i hil
  rw [hi] at hb1
  cases hb1
  have h46 : bt (s.extract x.a (scan letterB s x.a)) i = 46 := hb2.symm
  have e : bt (s.extract x.a (scan letterB s x.a)) i = bt s (x.a + i) := by
    unfold bt
    rw [dif_pos hil, dif_pos (by omega), ByteArray.getElem_extract]
  have := letters_ok s (s.size - x.a) x.a (x.a + i) (by omega) (show x.a + i < scan letterB s x.a by omega)
  rw [← e, h46] at this
  exact absurd this (by decide)
theorem pathLoop_ok (s : ByteArray) : ∀ (n : Nat) (x : St) (l : List ByteArray), x.e = 0 → x.a ≤ s.size → (rpathLoop s n x l).1.e = 0 → s.size + 1 ≤ n + x.a → (∀ m ∈ l, nmOk m) → (∀ m ∈ (rpathLoop s n x l).2, nmOk m) ∧ (rpathLoop s n x l).2 ≠ []
  | 0, x, l, he, ha, h, hn, hl => by omega
  | n + 1, x, l, he, ha, h, hn, hl => by
    simp only [rpathLoop] at h ⊢
    have hne : (rname s x).1.e = 0 := by
      apply Classical.byContradiction
      intro hb
      rw [ris_off s _ 46 hb, if_neg (by simp)] at h
      exact hb h
    have h1 := scan_ge letterB s x.a
    have h2 := scan_le letterB s x.a ha
    have e := rname_eq s x he ha
    have hy : scan letterB s x.a ≠ x.a := by
      intro q
      rw [e, if_pos q] at hne
      cases hne
    have e1 : (rname s x).1 = ⟨scan letterB s x.a, x.e, x.p⟩ := by
      rw [e, if_neg hy] at hne ⊢
      by_cases h20 : 20 < scan letterB s x.a - x.a
      · rw [if_pos h20] at hne; cases hne
      · rw [if_neg h20]
    have e2 : (rname s x).2 = s.extract x.a (scan letterB s x.a) := by rw [e]
    have hnm : nmOk (rname s x).2 := by rw [e2]; exact nm_ok he ha (by omega) h2
    have hl2 : ∀ m ∈ l ++ [(rname s x).2], nmOk m := by
      intro m hm
      rcases List.mem_append.1 hm with q | q
      · exact hl m q
      · rw [List.mem_singleton.1 q]; exact hnm
    by_cases hr : ris s (rname s x).1 46 = true
    · rw [if_pos hr] at h ⊢
      rw [ris_pk s _ 46 hne (by decide), decide_eq_true_eq] at hr
      have hlt : (rname s x).1.a < s.size := by
        rcases Nat.lt_or_ge (rname s x).1.a s.size with q | q
        · exact q
        · rw [bt_end s _ q] at hr; omega
      have ea : (rname s x).1.a = scan letterB s x.a := by rw [e1]
      exact pathLoop_ok s n _ _ hne (by show (rname s x).1.a + 1 ≤ _; omega) h (by show s.size + 1 ≤ n + ((rname s x).1.a + 1); omega) hl2
    · rw [if_neg hr]
      exact ⟨hl2, by simp⟩
theorem rpath_vpath {s : ByteArray} {x : St} (he : x.e = 0) (ha : x.a ≤ s.size) (h : (rpath s x).1.e = 0) : vpath (rpath s x).2 := by
  have hb : (rpathLoop s (s.size + 1 - x.a) x []).1.e = 0 := by
    unfold rpath at h
    simp only at h
    split at h
    · apply Classical.byContradiction
      intro hb
      rw [rno_off _ _ _ hb] at h
      exact hb h
    · exact h
  have := pathLoop_ok s (s.size + 1 - x.a) x [] he ha hb (by omega) (by simp)
  exact ⟨this.2, this.1⟩
end Go.Proofs.YtdebjhdafnpfkabGreatDoor

namespace Go.Proofs.YtdebjhdafnpfkabGreatDoor
open Go.ChangeShapes Go.WideShapes Go.ChangeAt Go.RowKit
set_option linter.unusedVariables false
set_option linter.unusedSimpArgs false
/-- A line's entry, among some blocks. -/
def PEnt (S : Nat → Prop) (w : World) (v : Value) (t : It) : Prop :=
  ∃ q, S q ∧ w.cell? ⟨q, 0, none⟩ = some (.string (rmk t.rem)) ∧ w.cell? ⟨q, 1, none⟩ = some (.bool (decide (t.rem.size ≠ 0))) ∧ (∀ o, w.frozen? ⟨q, o, none⟩ = false) ∧
    ((t.k = 91 ∧ v = .iface 124 (ptr q) ∧ w.cell? ⟨q, 2, none⟩ = some (.string (jn t.path))) ∨
     (t.k = 61 ∧ v = .iface 61 (ptr q) ∧ w.cell? ⟨q, 2, none⟩ = some (.string (jn t.path)) ∧ w.cell? ⟨q, 3, none⟩ = some (.string (jn t.full)) ∧
       ∃ pv lo hi, w.cell? ⟨q, 4, none⟩ = some pv ∧ (∀ k, lo ≤ k → k < hi → S k ∧ k ≠ q) ∧ PVal 7 lo hi w pv t.v) ∨
     ((t.k = 32 ∨ t.k = 35) ∧ v = .iface 120 (ptr q)))
theorem PEnt.frame {S : Nat → Prop} {w w' : World} {v : Value} {t : It} (h : PEnt S w v t) (hb : ∀ k, S k → w'.heap[k]? = w.heap[k]?) : PEnt S w' v t := by
  obtain ⟨q, h1, h3, h4, h5, h6⟩ := h
  have hq := hb q h1
  refine ⟨q, h1, (World.cell?_of_block (w := w) hq).trans h3, (World.cell?_of_block (w := w) hq).trans h4, fun o => (World.frozen?_of_block (w := w) hq).trans (h5 o), ?_⟩
  rcases h6 with ⟨a, b, c⟩ | ⟨a, b, c, d, pv, lo, hi, e, hs, f⟩ | h6
  · exact .inl ⟨a, b, (World.cell?_of_block (w := w) hq).trans c⟩
  · exact .inr (.inl ⟨a, b, (World.cell?_of_block (w := w) hq).trans c, (World.cell?_of_block (w := w) hq).trans d, pv, lo, hi, (World.cell?_of_block (w := w) hq).trans e, hs, f.frame (fun k k1 k2 => hb k (hs k k1 k2).1)⟩)
  · exact .inr (.inr h6)
/-- The blocks are new, and none of the rows. -/
def Away (n : Nat) (b : Nat) (hv pv ev : Value) (S : Nat → Prop) : Prop := ∀ k, S k → b < k ∧ k < n ∧ hv.ownBlock ≠ some k ∧ pv.ownBlock ≠ some k ∧ ev.ownBlock ≠ some k
/-- What the program's reader holds besides its place. -/
structure PT (w : World) (b nb : Nat) (tab : ByteArray) (hv pv ev : Value) (H P : List ByteArray) (es : List Value) (items : List It) : Prop where
  bnd : nb ≤ w.heap.size
  c3 : w.cell? ⟨b, 3, none⟩ = some (.string tab)
  c4 : w.cell? ⟨b, 4, none⟩ = some hv
  c5 : w.cell? ⟨b, 5, none⟩ = some pv
  c6 : w.cell? ⟨b, 6, none⟩ = some ev
  o4 : w.ownsRow (b + 1) 9 1 hv H.length (H.map .string)
  o5 : w.ownsRow (b + 1) 9 1 pv P.length (P.map .string)
  o6 : w.ownsRow (b + 1) 93 1 ev es.length es
  a45 : ∀ k, hv.ownBlock = some k → pv.ownBlock ≠ some k
  a46 : ∀ k, hv.ownBlock = some k → ev.ownBlock ≠ some k
  a56 : ∀ k, pv.ownBlock = some k → ev.ownBlock ≠ some k
  len : es.length = items.length
  ents : ∀ (i : Nat) (v : Value) (t : It), es[i]? = some v → items[i]? = some t → ∃ S, Away nb b hv pv ev S ∧ PEnt S w v t
theorem PT.frame {w w' : World} {b nb : Nat} {tab : ByteArray} {hv pv ev : Value} {H P : List ByteArray} {es : List Value} {items : List It} (h : PT w b nb tab hv pv ev H P es items)
    (hc : ∀ o, 3 ≤ o → w'.cell? ⟨b, o, none⟩ = w.cell? ⟨b, o, none⟩) (hz : w.heap.size ≤ w'.heap.size) (hb : ∀ k, b < k → k < w.heap.size → w'.heap[k]? = w.heap[k]?) : PT w' b nb tab hv pv ev H P es items := by
  have hbn := h.bnd
  refine ⟨Nat.le_trans h.bnd hz, (hc 3 (by omega)).trans h.c3, (hc 4 (by omega)).trans h.c4, (hc 5 (by omega)).trans h.c5, (hc 6 (by omega)).trans h.c6, ?_, ?_, ?_, h.a45, h.a46, h.a56, h.len, fun i v t hi ht => ?_⟩
  · exact ownsS_frame h.o4 (fun k h1 h2 _ => hb k (by omega) h2)
  · exact ownsS_frame h.o5 (fun k h1 h2 _ => hb k (by omega) h2)
  · exact ownsS_frame h.o6 (fun k h1 h2 _ => hb k (by omega) h2)
  · obtain ⟨S, a1, a4⟩ := h.ents i v t hi ht
    exact ⟨S, a1, a4.frame (fun k k1 => hb k (a1 k k1).1 (Nat.lt_of_lt_of_le (a1 k k1).2.1 hbn))⟩
theorem PT.kc {w w' : World} {b nb : Nat} {tab : ByteArray} {hv pv ev : Value} {H P : List ByteArray} {es : List Value} {items : List It} (h : PT w b nb tab hv pv ev H P es items) (k : Kc b w w') : PT w' b nb tab hv pv ev H P es items :=
  h.frame (fun o ho => k.off o (by omega) (by omega)) k.kb.size (fun i h1 h2 => k.kb.block i h2 (by omega))
theorem PT.alloc {w : World} {b nb : Nat} {tab : ByteArray} {hv pv ev : Value} {H P : List ByteArray} {es : List Value} {items : List It} (h : PT w b nb tab hv pv ev H P es items) (hb : b < w.heap.size) (o : Obj) : PT (w.alloc o) b nb tab hv pv ev H P es items :=
  h.kc ((Kc.refl b w).alloc hb o)
theorem PT.tab {w : World} {b nb : Nat} {tab : ByteArray} {hv pv ev : Value} {H P : List ByteArray} {es : List Value} {items : List It} (h : PT w b nb tab hv pv ev H P es items) (t2 : ByteArray) : PT (w.setCell ⟨b, 3, none⟩ (.string t2)) b nb t2 hv pv ev H P es items := by
  have hb : ∀ k, b < k → (w.setCell ⟨b, 3, none⟩ (.string t2)).heap[k]? = w.heap[k]? := fun k hk => Below.heap_setCell _ _ _ _ (by simp only; omega)
  refine ⟨by simpa [World.setCell] using h.bnd, cell_set_same _ _ _ _ _ h.c3, (cell_set_off _ _ _ _ _ (by omega)).trans h.c4, (cell_set_off _ _ _ _ _ (by omega)).trans h.c5, (cell_set_off _ _ _ _ _ (by omega)).trans h.c6, ?_, ?_, ?_, h.a45, h.a46, h.a56, h.len, fun i v t hi ht => ?_⟩
  · exact ownsS_frame h.o4 (fun k h1 _ _ => hb k (by omega))
  · exact ownsS_frame h.o5 (fun k h1 _ _ => hb k (by omega))
  · exact ownsS_frame h.o6 (fun k h1 _ _ => hb k (by omega))
  · obtain ⟨S, a1, a4⟩ := h.ents i v t hi ht
    exact ⟨S, a1, a4.frame (fun k k1 => hb k (a1 k k1).1)⟩
theorem own_new {b c : Nat} {v v' : Value} {w w' : World} (h : Ap b c v w w' v') {k : Nat} (hk : k < w.heap.size) (hv : v.ownBlock ≠ some k) : v'.ownBlock ≠ some k := by
  intro e
  rcases h.own with q | q
  · exact hv (q ▸ e)
  · have := q k e
    omega
theorem ap_apart {b c : Nat} {v v' u : Value} {w w' : World} {base : Nat} {e : TypeId} {n : Nat} {xs : List Value} (h : Ap b c v w w' v') (ha : ∀ k, v.ownBlock = some k → u.ownBlock ≠ some k) (ho : w.ownsRow base e 1 u n xs) : ∀ k, v'.ownBlock = some k → u.ownBlock ≠ some k := by
  intro k hk hu
  rcases h.own with q | q
  · exact ha k (q ▸ hk) hu
  · have := q k hk
    have := (ho.lt k hu).2
    omega
/-- A header was taken. -/
theorem PT.hdr {w w' : World} {b nb : Nat} {tab : ByteArray} {hv pv ev hv' : Value} {H P : List ByteArray} {es : List Value} {items : List It} (h : PT w b nb tab hv pv ev H P es items) (p : ByteArray) (ha : Ap b 4 hv w w' hv')
    (ho : w'.ownsRow (b + 1) 9 1 hv' (H ++ [p]).length ((H ++ [p]).map .string)) : PT w' b nb tab hv' pv ev (H ++ [p]) P es items := by
  have hbn := h.bnd
  refine ⟨Nat.le_trans h.bnd ha.size, (ha.off 3 (by decide)).trans h.c3, ha.cell, (ha.off 5 (by decide)).trans h.c5, (ha.off 6 (by decide)).trans h.c6, ho, ?_, ?_, ap_apart ha h.a45 h.o5, ap_apart ha h.a46 h.o6, h.a56, h.len, fun i v t hi ht => ?_⟩
  · exact ownsS_frame h.o5 (fun k h1 h2 h3 => ha.block k h2 (by omega) (fun e => h.a45 k e h3))
  · exact ownsS_frame h.o6 (fun k h1 h2 h3 => ha.block k h2 (by omega) (fun e => h.a46 k e h3))
  · obtain ⟨S, a1, a4⟩ := h.ents i v t hi ht
    refine ⟨S, fun k hk => ?_, a4.frame (fun k k1 => ha.block k (Nat.lt_of_lt_of_le (a1 k k1).2.1 hbn) (by have := (a1 k k1).1; omega) (a1 k k1).2.2.1)⟩
    obtain ⟨q1, q2, q3, q4, q5⟩ := a1 k hk
    exact ⟨q1, q2, own_new ha (Nat.lt_of_lt_of_le q2 hbn) q3, q4, q5⟩
/-- A pair was taken. -/
theorem PT.pair {w w' : World} {b nb : Nat} {tab : ByteArray} {hv pv ev pv' : Value} {H P : List ByteArray} {es : List Value} {items : List It} (h : PT w b nb tab hv pv ev H P es items) (p : ByteArray) (ha : Ap b 5 pv w w' pv')
    (ho : w'.ownsRow (b + 1) 9 1 pv' (P ++ [p]).length ((P ++ [p]).map .string)) : PT w' b nb tab hv pv' ev H (P ++ [p]) es items := by
  have hbn := h.bnd
  refine ⟨Nat.le_trans h.bnd ha.size, (ha.off 3 (by decide)).trans h.c3, (ha.off 4 (by decide)).trans h.c4, ha.cell, (ha.off 6 (by decide)).trans h.c6, ?_, ho, ?_, fun k h1 h2 => ap_apart ha (fun k q1 q2 => h.a45 k q2 q1) h.o4 k h2 h1, h.a46, ap_apart ha h.a56 h.o6, h.len, fun i v t hi ht => ?_⟩
  · exact ownsS_frame h.o4 (fun k h1 h2 h3 => ha.block k h2 (by omega) (fun e => h.a45 k h3 e))
  · exact ownsS_frame h.o6 (fun k h1 h2 h3 => ha.block k h2 (by omega) (fun e => h.a56 k e h3))
  · obtain ⟨S, a1, a4⟩ := h.ents i v t hi ht
    refine ⟨S, fun k hk => ?_, a4.frame (fun k k1 => ha.block k (Nat.lt_of_lt_of_le (a1 k k1).2.1 hbn) (by have := (a1 k k1).1; omega) (a1 k k1).2.2.2.1)⟩
    obtain ⟨q1, q2, q3, q4, q5⟩ := a1 k hk
    exact ⟨q1, q2, q3, own_new ha (Nat.lt_of_lt_of_le q2 hbn) q4, q5⟩
/-- A line more. -/
theorem PT.entry {w w' : World} {b nb : Nat} {tab : ByteArray} {hv pv ev ev' : Value} {H P : List ByteArray} {es : List Value} {items : List It} (h : PT w b nb tab hv pv ev H P es items) (v : Value) (t : It) (ha : Ap b 6 ev w w' ev')
    (ho : w'.ownsRow (b + 1) 93 1 ev' (es ++ [v]).length (es ++ [v])) {S : Nat → Prop} (h1 : Away w.heap.size b hv pv ev S) (he : PEnt S w v t) : PT w' b w'.heap.size tab hv pv ev' H P (es ++ [v]) (items ++ [t]) := by
  have key : ∀ (S : Nat → Prop) (u : Value) (t : It), Away w.heap.size b hv pv ev S → PEnt S w u t → ∃ S, Away w'.heap.size b hv pv ev' S ∧ PEnt S w' u t := by
    intro S u t a1 a4
    refine ⟨S, fun k hk => ?_, a4.frame (fun k k1 => ha.block k (a1 k k1).2.1 (by have := (a1 k k1).1; omega) (a1 k k1).2.2.2.2)⟩
    obtain ⟨q1, q2, q3, q4, q5⟩ := a1 k hk
    exact ⟨q1, Nat.lt_of_lt_of_le q2 ha.size, q3, q4, own_new ha q2 q5⟩
  refine ⟨Nat.le_refl _, (ha.off 3 (by decide)).trans h.c3, (ha.off 4 (by decide)).trans h.c4, (ha.off 5 (by decide)).trans h.c5, ha.cell, ?_, ?_, ho, h.a45, fun k q1 q2 => ap_apart ha (fun k r1 r2 => h.a46 k r2 r1) h.o4 k q2 q1, fun k q1 q2 => ap_apart ha (fun k r1 r2 => h.a56 k r2 r1) h.o5 k q2 q1, by simp [h.len], fun i u t' hu ht => ?_⟩
  · exact ownsS_frame h.o4 (fun k h1 h2 h3 => ha.block k h2 (by omega) (fun e => h.a46 k h3 e))
  · exact ownsS_frame h.o5 (fun k h1 h2 h3 => ha.block k h2 (by omega) (fun e => h.a56 k h3 e))
  · by_cases hi' : i < es.length
    · rw [List.getElem?_append_left hi'] at hu
      rw [List.getElem?_append_left (by rw [← h.len]; exact hi')] at ht
      obtain ⟨S, a1, a4⟩ := h.ents i u t' hu ht
      exact key S u t' (fun k hk => ⟨(a1 k hk).1, Nat.lt_of_lt_of_le (a1 k hk).2.1 h.bnd, (a1 k hk).2.2⟩) a4
    · rw [List.getElem?_append_right (by omega)] at hu
      rw [List.getElem?_append_right (by rw [← h.len]; omega)] at ht
      rw [h.len] at hu
      have e : i - items.length = 0 := by
        have := (List.getElem?_eq_some_iff.1 hu).1
        simp at this
        omega
      rw [e] at hu ht
      simp only [List.getElem?_cons_zero, Option.some.injEq] at hu ht
      subst hu ht
      exact key S v t h1 he
/-- A block of the new entry is written. -/
theorem PT.set {w : World} {b nb : Nat} {tab : ByteArray} {hv pv ev : Value} {H P : List ByteArray} {es : List Value} {items : List It} (h : PT w b nb tab hv pv ev H P es items) (q o : Nat) (x : Value) (hb : b < q) (hn : nb ≤ q)
    (h4 : hv.ownBlock ≠ some q) (h5 : pv.ownBlock ≠ some q) (h6 : ev.ownBlock ≠ some q) : PT (w.setCell ⟨q, o, none⟩ x) b nb tab hv pv ev H P es items := by
  have hk : ∀ k, k ≠ q → (w.setCell ⟨q, o, none⟩ x).heap[k]? = w.heap[k]? := fun k hk => Below.heap_setCell _ _ _ _ (by simpa using hk)
  have hc : ∀ o', (w.setCell ⟨q, o, none⟩ x).cell? ⟨b, o', none⟩ = w.cell? ⟨b, o', none⟩ := fun o' => World.cell?_of_block (w := w) (hk b (by omega))
  refine ⟨by simpa [World.setCell] using h.bnd, (hc 3).trans h.c3, (hc 4).trans h.c4, (hc 5).trans h.c5, (hc 6).trans h.c6, ?_, ?_, ?_, h.a45, h.a46, h.a56, h.len, fun i v t hi ht => ?_⟩
  · exact ownsS_frame h.o4 (fun k _ _ h3 => hk k (fun e => h4 (e ▸ h3)))
  · exact ownsS_frame h.o5 (fun k _ _ h3 => hk k (fun e => h5 (e ▸ h3)))
  · exact ownsS_frame h.o6 (fun k _ _ h3 => hk k (fun e => h6 (e ▸ h3)))
  · obtain ⟨S, a1, a4⟩ := h.ents i v t hi ht
    exact ⟨S, a1, a4.frame (fun k k1 => hk k (by have := (a1 k k1).2.1; omega))⟩
/-- .. with its remark. -/
theorem PEnt.remark {S : Nat → Prop} {w : World} {tt q : Nat} {t : It} (h : PEnt S w (.iface tt (ptr q)) t) (r : ByteArray) (hr : r.size ≠ 0) :
    S q ∧ PEnt S ((w.setCell ⟨q, 0, none⟩ (.string (rmk r))).setCell ⟨q, 1, none⟩ (.bool true)) (.iface tt (ptr q)) ⟨t.k, t.path, t.full, t.v, r⟩ ∧ w.cell? ⟨q, 0, none⟩ = some (.string (rmk t.rem)) ∧ w.cell? ⟨q, 1, none⟩ = some (.bool (decide (t.rem.size ≠ 0))) ∧ (∀ o, w.frozen? ⟨q, o, none⟩ = false) := by
  obtain ⟨q', h1, h3, h4, h5, h6⟩ := h
  have e : q' = q := by
    rcases h6 with ⟨_, e, _⟩ | ⟨_, e, _⟩ | ⟨_, e⟩
    · simp only [Value.iface.injEq, Value.pointer.injEq, Option.some.injEq, Addr.mk.injEq, and_true] at e; exact e.2.symm
    · simp only [Value.iface.injEq, Value.pointer.injEq, Option.some.injEq, Addr.mk.injEq, and_true] at e; exact e.2.symm
    · simp only [Value.iface.injEq, Value.pointer.injEq, Option.some.injEq, Addr.mk.injEq, and_true] at e; exact e.2.symm
  subst e
  have hoff : ∀ o, o ≠ 0 → o ≠ 1 → ((w.setCell ⟨q', 0, none⟩ (.string (rmk r))).setCell ⟨q', 1, none⟩ (.bool true)).cell? ⟨q', o, none⟩ = w.cell? ⟨q', o, none⟩ := fun o a b =>
    (cell_set_off _ _ _ _ _ (by omega)).trans (cell_set_off _ _ _ _ _ (by omega))
  have hk : ∀ k, k ≠ q' → ((w.setCell ⟨q', 0, none⟩ (.string (rmk r))).setCell ⟨q', 1, none⟩ (.bool true)).heap[k]? = w.heap[k]? := fun k hk =>
    (Below.heap_setCell _ _ _ _ (by simpa using hk)).trans (Below.heap_setCell _ _ _ _ (by simpa using hk))
  refine ⟨h1, ⟨q', h1, ?_, ?_, ?_, ?_⟩, h3, h4, h5⟩
  · exact (cell_set_off _ _ _ _ _ (by omega)).trans (cell_set_same _ _ _ _ _ h3)
  · rw [cell_set_same _ _ _ _ _ ((cell_set_off _ _ _ _ _ (by omega)).trans h4), decide_eq_true (show r.size ≠ 0 from hr)]
  · intro o
    rw [World.frozen?_setCell, World.frozen?_setCell]
    exact h5 o
  · rcases h6 with ⟨a, b, c⟩ | ⟨a, b, c, d, pv, lo, hi, e, hs, f⟩ | h6
    · exact .inl ⟨a, b, (hoff 2 (by omega) (by omega)).trans c⟩
    · exact .inr (.inl ⟨a, b, (hoff 2 (by omega) (by omega)).trans c, (hoff 3 (by omega) (by omega)).trans d, pv, lo, hi, (hoff 4 (by omega) (by omega)).trans e, hs, f.frame (fun k k1 k2 => hk k (hs k k1 k2).2)⟩)
    · exact .inr (.inr h6)
theorem Ap.pc {b c : Nat} {v v' : Value} {w w' : World} {s : ByteArray} {a : Nat} (h : Ap b c v w w' v') (p : PC w b s a) (hc : 3 ≤ c) : PC w' b s a :=
  ⟨(h.off 0 (by omega)).trans p.T, (h.off 1 (by omega)).trans p.A, (h.off 2 (by omega)).trans p.L, fun o => (h.froz o).trans (p.F o), Nat.lt_of_lt_of_le p.lt h.size⟩
theorem Ap.below {b c : Nat} {v v' : Value} {w w' : World} (h : Ap b c v w w' v') (hb : b < w.heap.size) (hv : ∀ k, v.ownBlock = some k → b < k) : Below b w w' :=
  ⟨h.os, h.tape, h.output, h.size, fun k hk => h.block k (by omega) (by omega) (fun e => by have := hv k e; omega)⟩
theorem Kb.bel {b : Nat} {w w' : World} (h : Kb b w w') (hb : b < w.heap.size) : Below b w w' := ⟨h.os, h.tape, h.output, h.size, fun k hk => h.block k (by omega) (by omega)⟩
end Go.Proofs.YtdebjhdafnpfkabGreatDoor
