import Derived.Test.YtdebjhdafnpfkaaGreatDoorGA
import Derived.Test.YtdebjhdafnpfkaaGreatDoorPPure3
namespace Go.Proofs.YtdebjhdafnpfkaaGreatDoor
set_option linter.unusedVariables false
set_option linter.unusedSimpArgs false

/-- Is it the head, or does it begin with it and a dot? -/
def bgl : List UInt8 → List UInt8 → Bool
  | [], [] => true
  | a :: _, [] => a == 46
  | [], _ :: _ => false
  | a :: p, b :: h => a == b && bgl p h
theorem bgl_eq : ∀ (p h : List UInt8), 46 ∉ p → 46 ∉ h → bgl p h = decide (p = h)
  | [], [], _, _ => rfl
  | a :: p, [], hp, _ => by
    simp only [List.mem_cons, not_or] at hp
    simp only [bgl]
    rw [decide_eq_false (by simp)]
    simpa using fun e => hp.1 e.symm
  | [], b :: h, _, _ => by simp [bgl]
  | a :: p, b :: h, hp, hh => by
    simp only [List.mem_cons, not_or] at hp hh
    simp only [bgl, bgl_eq p h hp.2 hh.2, List.cons.injEq]
    by_cases e : a = b
    · simp [e]
    · simp [e]
theorem bgl_more (q : List UInt8) : ∀ (p h : List UInt8), 46 ∉ p → 46 ∉ h → bgl (p ++ 46 :: q) h = decide (p = h)
  | [], [], _, _ => rfl
  | a :: p, [], hp, _ => by
    simp only [List.mem_cons, not_or] at hp
    simp only [bgl, List.cons_append]
    rw [decide_eq_false (by simp)]
    simpa using fun e => hp.1 e.symm
  | [], b :: h, _, hh => by
    simp only [List.mem_cons, not_or] at hh
    simp only [List.nil_append, bgl]
    rw [decide_eq_false (by simp)]
    have : ((46 : UInt8) == b) = false := by simpa using hh.1
    rw [this]
    rfl
  | a :: p, b :: h, hp, hh => by
    simp only [List.mem_cons, not_or] at hp hh
    simp only [bgl, List.cons_append, bgl_more q p h hp.2 hh.2, List.cons.injEq]
    by_cases e : a = b
    · simp [e]
    · simp [e]
theorem bgl_less (r : List UInt8) : ∀ (p h : List UInt8), 46 ∉ p → 46 ∉ h → bgl p (h ++ 46 :: r) = false
  | [], [], _, _ => rfl
  | a :: p, [], hp, _ => by
    simp only [List.mem_cons, not_or] at hp
    simp only [List.nil_append, bgl]
    have : (a == (46 : UInt8)) = false := by simpa using fun e => hp.1 e.symm
    rw [this]
    rfl
  | [], b :: h, _, hh => rfl
  | a :: p, b :: h, hp, hh => by
    simp only [List.mem_cons, not_or] at hp hh
    simp only [bgl, List.cons_append, bgl_less r p h hp.2 hh.2, Bool.and_false]
theorem bgl_both (q r : List UInt8) : ∀ (p h : List UInt8), 46 ∉ p → 46 ∉ h → bgl (p ++ 46 :: q) (h ++ 46 :: r) = (decide (p = h) && bgl q r)
  | [], [], _, _ => by simp [bgl]
  | a :: p, [], hp, _ => by
    simp only [List.mem_cons, not_or] at hp
    simp only [List.nil_append, List.cons_append, bgl]
    have : (a == (46 : UInt8)) = false := by simpa using fun e => hp.1 e.symm
    rw [this, decide_eq_false (by simp)]
    rfl
  | [], b :: h, _, hh => by
    simp only [List.mem_cons, not_or] at hh
    simp only [List.nil_append, List.cons_append, bgl]
    have : ((46 : UInt8) == b) = false := by simpa using hh.1
    rw [this, decide_eq_false (by simp)]
    rfl
  | a :: p, b :: h, hp, hh => by
    simp only [List.mem_cons, not_or] at hp hh
    simp only [bgl, List.cons_append, bgl_both q r p h hp.2 hh.2, List.cons.injEq]
    by_cases e : a = b
    · simp [e]
    · simp [e]
theorem bgl_refl : ∀ p : List UInt8, bgl p p = true
  | [] => rfl
  | a :: p => by simp [bgl, bgl_refl p]

/-- A name: some letters. -/
def nmOk (n : ByteArray) : Prop := n.size ≠ 0 ∧ (46 : UInt8) ∉ n.data.toList
/-- A path: some names. -/
def vpath (l : List ByteArray) : Prop := l ≠ [] ∧ ∀ n ∈ l, nmOk n
theorem jn_list : ∀ (n m : ByteArray) (r : List ByteArray), (jn (n :: m :: r)).data.toList = n.data.toList ++ 46 :: (jn (m :: r)).data.toList := by
  intro n m r
  show (n ++ dotS ++ jn (m :: r)).data.toList = _
  simp [dotS]
theorem rstarts_nil (P : List ByteArray) : rstarts P [] = true := by simp [rstarts]
theorem rstarts_short (h : ByteArray) (H : List ByteArray) : rstarts [] (h :: H) = false := by simp [rstarts]
theorem rstarts_cons (p h : ByteArray) (P H : List ByteArray) : rstarts (p :: P) (h :: H) = (decide (p = h) && rstarts P H) := by
  rw [Bool.eq_iff_iff]
  simp only [rstarts, Bool.and_eq_true, decide_eq_true_eq, List.length_cons, List.take_succ_cons, List.cons.injEq, Nat.add_le_add_iff_right]
  constructor
  · rintro ⟨h1, h2, h3⟩; exact ⟨h2, h1, h3⟩
  · rintro ⟨h2, h1, h3⟩; exact ⟨h1, h2, h3⟩
theorem data_inj {a b : ByteArray} : a.data.toList = b.data.toList ↔ a = b := ⟨bytes_ext, fun e => by rw [e]⟩
theorem bgl_jn : ∀ (H P : List ByteArray), vpath P → vpath H → bgl (jn P).data.toList (jn H).data.toList = rstarts P H
  | [], P, _, h => absurd rfl h.1
  | _ :: _, [], h, _ => absurd rfl h.1
  | [h], [p], hp, hh => by
    rw [rstarts_cons, rstarts_nil, Bool.and_true]
    show bgl p.data.toList h.data.toList = _
    rw [bgl_eq _ _ (hp.2 p (by simp)).2 (hh.2 h (by simp)).2]
    simp only [data_inj]
  | [h], p :: p2 :: P, hp, hh => by
    rw [rstarts_cons, rstarts_nil, Bool.and_true, jn_list]
    show bgl _ h.data.toList = _
    rw [bgl_more _ _ _ (hp.2 p (by simp)).2 (hh.2 h (by simp)).2]
    simp only [data_inj]
  | h :: h2 :: H, [p], hp, hh => by
    rw [rstarts_cons, rstarts_short, Bool.and_false, jn_list]
    show bgl p.data.toList _ = _
    exact bgl_less _ _ _ (hp.2 p (by simp)).2 (hh.2 h (by simp)).2
  | h :: h2 :: H, p :: p2 :: P, hp, hh => by
    rw [rstarts_cons, jn_list, jn_list, bgl_both _ _ _ _ (hp.2 p (by simp)).2 (hh.2 h (by simp)).2]
    rw [bgl_jn (h2 :: H) (p2 :: P) ⟨by simp, fun n hn => hp.2 n (by simp [List.mem_cons.1 hn])⟩ ⟨by simp, fun n hn => hh.2 n (by simp [List.mem_cons.1 hn])⟩]
    simp only [data_inj]
theorem rstarts_len {P H : List ByteArray} (h : rstarts P H = true) (hl : P.length = H.length) : P = H := by
  simp only [rstarts, decide_eq_true_eq] at h
  rw [← hl, List.take_length] at h
  exact h.2
theorem jn_inj {P H : List ByteArray} (hp : vpath P) (hh : vpath H) : jn P = jn H ↔ P = H := by
  constructor
  · intro e
    have h1 : rstarts P H = true := by rw [← bgl_jn H P hp hh, e]; exact bgl_refl _
    have h2 : rstarts H P = true := by rw [← bgl_jn P H hh hp, e]; exact bgl_refl _
    have l1 : H.length ≤ P.length := by simp only [rstarts, decide_eq_true_eq] at h1; exact h1.1
    have l2 : P.length ≤ H.length := by simp only [rstarts, decide_eq_true_eq] at h2; exact h2.1
    exact rstarts_len h1 (by omega)
  · rintro rfl; rfl
/-- The same, as the program asks it. -/
def bgB (p h : ByteArray) : Bool := bgl p.data.toList h.data.toList
theorem bgl_pre : ∀ (p h : List UInt8), bgl p h = (h.isPrefixOf p && (decide (p.drop h.length = []) || decide ((p.drop h.length).head? = some 46)))
  | [], [] => rfl
  | a :: p, [] => by
    simp only [bgl, List.isPrefixOf, List.length_nil, List.drop_zero, Bool.true_and, List.head?_cons, Option.some.injEq]
    rw [decide_eq_false (by simp), Bool.false_or, Bool.eq_iff_iff]
    simp
  | [], b :: h => by simp [bgl, List.isPrefixOf]
  | a :: p, b :: h => by
    simp only [bgl, List.isPrefixOf, List.length_cons, List.drop_succ_cons, bgl_pre p h, Bool.and_assoc]
    by_cases e : a = b
    · subst e; simp
    · have e1 : (a == b) = false := by simpa using e
      have e2 : (b == a) = false := by simpa using fun h => e h.symm
      rw [e1, e2]
theorem jn_size {P : List ByteArray} (h : vpath P) : (jn P).size ≠ 0 := by
  match P, h with
  | [], h => exact absurd rfl h.1
  | [n], h => exact (h.2 n (by simp)).1
  | n :: m :: r, h =>
    have := (h.2 n (by simp)).1
    show (n ++ dotS ++ jn (m :: r)).size ≠ 0
    rw [ByteArray.size_append, ByteArray.size_append]
    omega
theorem jn_app {P Q : List ByteArray} (hp : P ≠ []) (hq : Q ≠ []) : jn (P ++ Q) = jn P ++ dotS ++ jn Q := by
  match P, hp with
  | [], h => exact absurd rfl h
  | [n], _ =>
    cases Q with
    | nil => exact absurd rfl hq
    | cons q r => rfl
  | n :: m :: r, _ =>
    show n ++ dotS ++ jn (m :: r ++ Q) = n ++ dotS ++ jn (m :: r) ++ dotS ++ jn Q
    rw [jn_app (P := m :: r) (by simp) hq]
    simp only [ByteArray.append_assoc]
theorem vpath_app {P Q : List ByteArray} (hp : P = [] ∨ vpath P) (hq : vpath Q) : vpath (P ++ Q) := by
  rcases hp with rfl | hp
  · exact hq
  · refine ⟨by simp [hp.1], fun n hn => ?_⟩
    rcases List.mem_append.1 hn with h | h
    · exact hp.2 n h
    · exact hq.2 n h
end Go.Proofs.YtdebjhdafnpfkaaGreatDoor

namespace Go.Proofs.YtdebjhdafnpfkaaGreatDoor
set_option linter.unusedVariables false
set_option linter.unusedSimpArgs false

def hdrs : List It → List ByteArray
  | [] => []
  | t :: r => if t.k = 91 then jn t.path :: hdrs r else hdrs r
def prs : List It → List ByteArray
  | [] => []
  | t :: r => if t.k = 61 then jn t.full :: prs r else prs r
theorem hdrs_snoc (t : It) : ∀ l : List It, hdrs (l ++ [t]) = if t.k = 91 then hdrs l ++ [jn t.path] else hdrs l
  | [] => by simp [hdrs]
  | a :: l => by
    simp only [List.cons_append, hdrs, hdrs_snoc t l]
    split <;> split <;> rfl
theorem prs_snoc (t : It) : ∀ l : List It, prs (l ++ [t]) = if t.k = 61 then prs l ++ [jn t.full] else prs l
  | [] => by simp [prs]
  | a :: l => by
    simp only [List.cons_append, prs, prs_snoc t l]
    split <;> split <;> rfl
theorem hdrs_len : ∀ l : List It, (hdrs l).length ≤ l.length
  | [] => Nat.le_refl _
  | a :: l => by
    have := hdrs_len l
    simp only [hdrs]
    split <;> simp only [List.length_cons] <;> omega
theorem prs_len : ∀ l : List It, (prs l).length ≤ l.length
  | [] => Nat.le_refl _
  | a :: l => by
    have := prs_len l
    simp only [prs]
    split <;> simp only [List.length_cons] <;> omega

/-- A line that was read, as it must be. -/
structure ItOk (t : It) : Prop where
  h : t.k = 91 → vpath t.path ∧ (jn t.path).size ≤ 4000
  p : t.k = 61 → vpath t.path ∧ vpath t.full ∧ (jn t.full).size ≤ 8001
  k : t.k = 91 ∨ t.k = 61 ∨ (t.k = 32 ∧ t.rem.size = 0) ∨ (t.k = 35 ∧ t.rem.size ≠ 0)
def ItsOk (l : List It) : Prop := ∀ t ∈ l, ItOk t
theorem ItsOk.snoc {l : List It} {t : It} (h : ItsOk l) (ht : ItOk t) : ItsOk (l ++ [t]) := by
  intro u hu
  rcases List.mem_append.1 hu with h1 | h1
  · exact h u h1
  · rw [List.mem_singleton.1 h1]; exact ht
theorem hdrs_size {l : List It} (h : ItsOk l) : ∀ p ∈ hdrs l, p.size ≤ 9000 := by
  induction l with
  | nil => intro p hp; simp [hdrs] at hp
  | cons a l ih =>
    intro p hp
    simp only [hdrs] at hp
    have ih := ih (fun t ht => h t (by simp [ht]))
    split at hp
    · rename_i hk
      rcases List.mem_cons.1 hp with rfl | hp
      · have := ((h a (by simp)).h hk).2; omega
      · exact ih p hp
    · exact ih p hp
theorem prs_size {l : List It} (h : ItsOk l) : ∀ p ∈ prs l, p.size ≤ 9000 := by
  induction l with
  | nil => intro p hp; simp [prs] at hp
  | cons a l ih =>
    intro p hp
    simp only [prs] at hp
    have ih := ih (fun t ht => h t (by simp [ht]))
    split at hp
    · rename_i hk
      rcases List.mem_cons.1 hp with rfl | hp
      · have := ((h a (by simp)).p hk).2.2; omega
      · exact ih p hp
    · exact ih p hp

def hdrNo (H P : List ByteArray) (p : ByteArray) : Bool := H.any (fun h => decide (h = p)) || P.any (fun q => bgB p q)
def pairNo (H P : List ByteArray) (p : ByteArray) : Bool := P.any (fun q => bgB p q || bgB q p) || H.any (fun h => bgB h p)
theorem bgB_jn {P H : List ByteArray} (hp : vpath P) (hh : vpath H) : bgB (jn P) (jn H) = rstarts P H := bgl_jn H P hp hh
theorem eq_starts (P H : List ByteArray) : (decide (P.length = H.length) && rstarts P H) = decide (H = P) := by
  rw [Bool.eq_iff_iff]
  simp only [Bool.and_eq_true, decide_eq_true_eq]
  constructor
  · rintro ⟨h1, h2⟩; exact (rstarts_len h2 h1).symm
  · rintro rfl
    exact ⟨rfl, by simp [rstarts]⟩
/-- A header is refused by both alike. -/
theorem twice_hdr {path : List ByteArray} (hp : vpath path) : ∀ {l : List It}, ItsOk l → rtwice l ⟨91, path, [], V0, ⟨#[]⟩⟩ = hdrNo (hdrs l) (prs l) (jn path)
  | [], _ => rfl
  | o :: l, h => by
    have ih := twice_hdr hp (l := l) (fun t ht => h t (by simp [ht]))
    have ho := h o (by simp)
    unfold rtwice at *
    unfold hdrNo at *
    rw [List.any_cons, ih]
    have hc : rclash ⟨91, path, [], V0, ⟨#[]⟩⟩ o = ((decide (o.k = 91) && (decide (path.length = o.path.length) && rstarts path o.path)) || (decide (o.k = 61) && rstarts path o.full)) := by
      unfold rclash
      simp only [true_and, Nat.reduceEqDiff, false_and, decide_false, Bool.false_and, Bool.or_false, Bool.decide_and, Bool.and_assoc]
    rw [hc]
    simp only [hdrs, prs]
    by_cases k1 : o.k = 91
    · have k2 : ¬ o.k = 61 := by omega
      rw [if_pos k1, if_neg k2, List.any_cons, decide_eq_true k1, decide_eq_false k2, Bool.true_and, Bool.false_and, Bool.or_false, eq_starts]
      have : decide (o.path = path) = decide (jn o.path = jn path) := by
        rw [Bool.eq_iff_iff, decide_eq_true_eq, decide_eq_true_eq, jn_inj (ho.h k1).1 hp]
      rw [this, Bool.or_assoc]
    · rw [if_neg k1, decide_eq_false k1, Bool.false_and, Bool.false_or]
      by_cases k2 : o.k = 61
      · rw [if_pos k2, List.any_cons, decide_eq_true k2, Bool.true_and, bgB_jn hp (ho.p k2).2.1]
        cases rstarts path o.full <;> cases (List.any (hdrs l) fun h => decide (h = jn path)) <;> rfl
      · rw [if_neg k2, decide_eq_false k2, Bool.false_and, Bool.false_or]
/-- A pair is refused by both alike. -/
theorem twice_pair {path full : List ByteArray} {v : V} (hp : vpath full) : ∀ {l : List It}, ItsOk l → rtwice l ⟨61, path, full, v, ⟨#[]⟩⟩ = pairNo (hdrs l) (prs l) (jn full)
  | [], _ => rfl
  | o :: l, h => by
    have ih := twice_pair (path := path) (v := v) hp (l := l) (fun t ht => h t (by simp [ht]))
    have ho := h o (by simp)
    unfold rtwice at *
    unfold pairNo at *
    rw [List.any_cons, ih]
    have hc : rclash ⟨61, path, full, v, ⟨#[]⟩⟩ o = ((decide (o.k = 61) && (rstarts full o.full || rstarts o.full full)) || (decide (o.k = 91) && rstarts o.path full)) := by
      unfold rclash
      simp only [true_and, Nat.reduceEqDiff, false_and, decide_false, Bool.false_and, Bool.false_or]
    rw [hc]
    simp only [hdrs, prs]
    by_cases k1 : o.k = 91
    · have k2 : ¬ o.k = 61 := by omega
      rw [if_pos k1, if_neg k2, List.any_cons, decide_eq_true k1, decide_eq_false k2, Bool.true_and, Bool.false_and, Bool.false_or, bgB_jn (ho.h k1).1 hp]
      cases rstarts o.path full <;> cases (List.any (prs l) fun q => bgB (jn full) q || bgB q (jn full)) <;> rfl
    · rw [if_neg k1, decide_eq_false k1, Bool.false_and, Bool.or_false]
      by_cases k2 : o.k = 61
      · rw [if_pos k2, List.any_cons, decide_eq_true k2, Bool.true_and, bgB_jn hp (ho.p k2).2.1, bgB_jn (ho.p k2).2.1 hp]
        simp only [Bool.or_assoc]
      · rw [if_neg k2, decide_eq_false k2, Bool.false_and, Bool.false_or]
theorem rtable_snoc (t : It) (l : List It) : rtable (l ++ [t]) = if t.k = 91 then t.path else rtable l := by
  unfold rtable
  rw [List.reverse_append]
  simp only [List.reverse_cons, List.reverse_nil, List.nil_append, List.singleton_append, List.find?_cons]
  by_cases h : t.k = 91
  · simp [h]
  · simp [h]
theorem rtable_ok {l : List It} (h : ItsOk l) : rtable l = [] ∨ (vpath (rtable l) ∧ (jn (rtable l)).size ≤ 4000) := by
  unfold rtable
  split
  · rename_i o ho
    have hm : o ∈ l := by simpa using List.mem_of_find?_eq_some ho
    have hk : o.k = 91 := by simpa using List.find?_some ho
    exact .inr ((h o hm).h hk)
  · exact .inl rfl

/-- A path that was read is one. -/
theorem letters_ok (s : ByteArray) : ∀ (n a : Nat) (i : Nat), a ≤ i → i < skip letterB s n a → letterB (bt s i) = true
  | 0, a, i, h1, h2 => by
    have : skip letterB s 0 a = a := rfl
    omega
  | n + 1, a, i, h1, h2 => by
    unfold skip at h2
    split at h2
    · rename_i hc
      by_cases e : i = a
      · subst e; exact hc.2
      · exact letters_ok s n (a + 1) i (by omega) h2
    · omega
theorem nm_ok {s : ByteArray} {x : St} (he : x.e = 0) (ha : x.a ≤ s.size) (hy : x.a < scan letterB s x.a) (hle : scan letterB s x.a ≤ s.size) : nmOk (s.extract x.a (scan letterB s x.a)) := by
  have hsz := size_ext s x.a _ hle
  refine ⟨by omega, fun hm => ?_⟩
  obtain ⟨i, hi⟩ := List.getElem?_of_mem hm
  have hl : (s.extract x.a (scan letterB s x.a)).data.toList.length = (s.extract x.a (scan letterB s x.a)).size := Array.length_toList
  have hil : i < (s.extract x.a (scan letterB s x.a)).size := by
    rw [← hl]
    exact (List.getElem?_eq_some_iff.1 hi).1
  obtain ⟨b, hb1, hb2⟩ := bt_list (s.extract x.a (scan letterB s x.a)) i hil
  rw [hi] at hb1
  cases hb1
  have h46 : bt (s.extract x.a (scan letterB s x.a)) i = 46 := hb2.symm
  have e : bt (s.extract x.a (scan letterB s x.a)) i = bt s (x.a + i) := by
    unfold bt
    rw [dif_pos hil, dif_pos (by omega), ByteArray.getElem_extract]
  have := letters_ok s (s.size - x.a) x.a (x.a + i) (by omega) (show x.a + i < scan letterB s x.a by omega)
  rw [← e, h46] at this
  exact absurd this (by decide)
theorem pathLoop_ok (s : ByteArray) : ∀ (n : Nat) (x : St) (l : List ByteArray), x.e = 0 → x.a ≤ s.size → (rpathLoop s n x l).1.e = 0 → s.size + 1 ≤ n + x.a → (∀ m ∈ l, nmOk m) → (∀ m ∈ (rpathLoop s n x l).2, nmOk m) ∧ (rpathLoop s n x l).2 ≠ []
  | 0, x, l, he, ha, h, hn, hl => by omega
  | n + 1, x, l, he, ha, h, hn, hl => by
    simp only [rpathLoop] at h ⊢
    have hne : (rname s x).1.e = 0 := by
      apply Classical.byContradiction
      intro hb
      rw [ris_off s _ 46 hb, if_neg (by simp)] at h
      exact hb h
    have h1 := scan_ge letterB s x.a
    have h2 := scan_le letterB s x.a ha
    have e := rname_eq s x he ha
    have hy : scan letterB s x.a ≠ x.a := by
      intro q
      rw [e, if_pos q] at hne
      cases hne
    have e1 : (rname s x).1 = ⟨scan letterB s x.a, x.e, x.p⟩ := by
      rw [e, if_neg hy] at hne ⊢
      by_cases h20 : 20 < scan letterB s x.a - x.a
      · rw [if_pos h20] at hne; cases hne
      · rw [if_neg h20]
    have e2 : (rname s x).2 = s.extract x.a (scan letterB s x.a) := by rw [e]
    have hnm : nmOk (rname s x).2 := by rw [e2]; exact nm_ok he ha (by omega) h2
    have hl2 : ∀ m ∈ l ++ [(rname s x).2], nmOk m := by
      intro m hm
      rcases List.mem_append.1 hm with q | q
      · exact hl m q
      · rw [List.mem_singleton.1 q]; exact hnm
    by_cases hr : ris s (rname s x).1 46 = true
    · rw [if_pos hr] at h ⊢
      rw [ris_pk s _ 46 hne (by decide), decide_eq_true_eq] at hr
      have hlt : (rname s x).1.a < s.size := by
        rcases Nat.lt_or_ge (rname s x).1.a s.size with q | q
        · exact q
        · rw [bt_end s _ q] at hr; omega
      have ea : (rname s x).1.a = scan letterB s x.a := by rw [e1]
      exact pathLoop_ok s n _ _ hne (by show (rname s x).1.a + 1 ≤ _; omega) h (by show s.size + 1 ≤ n + ((rname s x).1.a + 1); omega) hl2
    · rw [if_neg hr]
      exact ⟨hl2, by simp⟩
theorem rpath_vpath {s : ByteArray} {x : St} (he : x.e = 0) (ha : x.a ≤ s.size) (h : (rpath s x).1.e = 0) : vpath (rpath s x).2 := by
  have hb : (rpathLoop s (s.size + 1 - x.a) x []).1.e = 0 := by
    unfold rpath at h
    simp only at h
    split at h
    · apply Classical.byContradiction
      intro hb
      rw [rno_off _ _ _ hb] at h
      exact hb h
    · exact h
  have := pathLoop_ok s (s.size + 1 - x.a) x [] he ha hb (by omega) (by simp)
  exact ⟨this.2, this.1⟩
end Go.Proofs.YtdebjhdafnpfkaaGreatDoor

namespace Go.Proofs.YtdebjhdafnpfkaaGreatDoor
open Go.ChangeShapes Go.WideShapes Go.ChangeAt Go.RowKit
set_option linter.unusedVariables false
set_option linter.unusedSimpArgs false

theorem phas_take (ms : List ByteArray) (k : Nat) (a nm : ByteArray) (h : ms[k]? = some a) (h0 : has (ms.take k) nm = false) : has (ms.take (k + 1)) nm = decide (a = nm) := by
  unfold has at *
  rw [List.take_add_one, h, List.any_append, h0]
  simp
theorem has_mem (ms : List ByteArray) (k : Nat) (a nm : ByteArray) (h : ms[k]? = some a) (h0 : a = nm) : has ms nm = true := by
  unfold has
  rw [List.any_eq_true]
  exact ⟨a, List.mem_of_getElem? h, by simpa using h0⟩

set_option maxHeartbeats 2000000 in
theorem has_any (ms : List ByteArray) (vs : List Value) (gv : Value) (base n : Nat) (nm : ByteArray) (w : World) (hl : ms.length = vs.length) (hn : vs.length = n) (hn4 : n ≤ 8000)
    (hi : ∀ v ∈ vs, ∃ t u, v = .iface t u) (ho : w.ownsRow base 238 2 gv n (mem2 ms vs)) :
    Calls Tryz.prog 157 #[gv, .string nm] w fun e w' => e = .returned (.bool (has ms nm)) ∧ Below w.heap.size w w' := by
  obtain ⟨ad, cap, rfl⟩ := ownsS_form ho
  have Ho : Hid (w.ownsRow base 238 2 (.slice ad n cap) n (mem2 ms vs)) := ho
  have Hi : Hid _ := hi
  clear ho hi
  go_enter Tryz.func157, Tryz.ntmps157
  go_wp2_with fail
  go_loopw [9] (fun u9 wr => ∃ k : Nat, k ≤ n ∧ u9 = .int .i64 k ∧ Hid (has (ms.take k) nm = false) ∧ Hid (Below w.heap.size w wr)) (fun u9 _ => n - (intOf u9).toNat)
  case atStart => exact ⟨0, Nat.zero_le _, rfl, rfl, Below.refl _ _⟩
  case round =>
    obtain ⟨k, hk, rfl, ht, hB⟩ := hrel
    by_cases hlt : k < n
    · obtain ⟨a, hma⟩ : ∃ a, ms[k]? = some a := ⟨_, List.getElem?_eq_getElem (by omega)⟩
      obtain ⟨v, hva⟩ : ∃ v, vs[k]? = some v := ⟨_, List.getElem?_eq_getElem (by omega)⟩
      obtain ⟨vt, vu, rfl⟩ := Hi.out v (List.mem_of_getElem? hva)
      have hg2 := mem2_get ms vs k a _ hma hva
      rcases Ho.out.2 with ⟨_, h0⟩ | ⟨g, c, cur, hgv, hg1, hgg, _⟩
      · omega
      simp only [Value.slice.injEq] at hgv
      obtain ⟨rfl, _, rfl⟩ := hgv
      have hgz : g < w.heap.size := (Array.getElem?_eq_some_iff.1 hgg).1
      have c0 : wr.cell? ⟨g, k * 2, none⟩ = some (.string a) := by
        rw [hB.out.cell (p := ⟨g, k * 2, none⟩) hgz, Ho.out.cellAt (k * 2) (by omega), Nat.mul_comm]
        exact hg2.1
      have c1 : wr.cell? ⟨g, k * 2 + 1, none⟩ = some (.iface vt vu) := by
        rw [hB.out.cell (p := ⟨g, k * 2 + 1, none⟩) hgz, Ho.out.cellAt (k * 2 + 1) (by omega), Nat.mul_comm]
        exact hg2.2
      have Hma : Hid _ := hma
      clear hma hva hg2 hgg
      by_cases heq : a = nm
      · have ts : (a.toList == nm.toList) = true := by rw [toList_beq]; simpa using heq
        have Fin : Hid (has ms nm = true) := has_mem ms k a nm Hma.out heq
        clear heq
        go_wp2_with fail
        go_ret
        exact ⟨ret_bool' Fin.out.symm, hB.out.alloc hB.out.size _⟩
      · have ts : (a.toList == nm.toList) = false := by rw [toList_beq]; simpa using heq
        have Fin : Hid (has (ms.take (k + 1)) nm = false) := by
          unfold Hid
          rw [phas_take ms k a nm Hma.out ht.out]
          exact decide_eq_false heq
        clear heq
        go_wp2_with fail
        go_roundw
        case rel => exact ⟨k + 1, by omega, by go_num, Fin, hB.out.alloc hB.out.size _⟩
        case measure => simp [intOf]; omega
    · have e1 : k = n := by omega
      have Fin : Hid (has ms nm = false) := by
        have := ht.out
        rw [List.take_of_length_le (by omega)] at this
        exact this
      clear e1
      go_wp2_with fail
      go_ret
      exact ⟨ret_bool' Fin.out.symm, hB.out⟩

/-- A member's name. -/
def rmName (s : ByteArray) (ms : List ByteArray) (x : St) : St := if has ms (rname s x).2 = true then rno (rname s x).1 6 x.a else (rname s x).1
theorem readMemberName_any (b : Nat) (s : ByteArray) (x : St) (ms : List ByteArray) (vs : List Value) (gv : Value) (base n : Nat) (w : World) (hs : s.size ≤ 4000) (he : x.e = 0) (ha : x.a ≤ s.size) (hb : b < base)
    (hl : ms.length = vs.length) (hn : vs.length = n) (hn4 : n ≤ 8000) (hi : ∀ v ∈ vs, ∃ t u, v = .iface t u) (ho : w.ownsRow base 238 2 gv n (mem2 ms vs)) (h : PC w b s x.a) :
    Calls Tryz.prog 149 #[.pointer (some ⟨b, 0, none⟩), gv] w fun e w' => (e = .returned (.string (rname s x).2) ∧ POk s b w w' (rmName s ms x)) ∨ PBad s b w e w' (rmName s ms x) := by
  obtain ⟨ad, cap, rfl⟩ := ownsS_form ho
  have h' : Hid (PC w b s x.a) := h
  have Ho : Hid (w.ownsRow base 238 2 (.slice ad n cap) n (mem2 ms vs)) := ho
  have Hi : Hid _ := hi
  have HE : Hid (x.e = 0) := he
  clear h ho hi he
  go_enter Tryz.func149, Tryz.ntmps149
  go_wp2_with fail
  refine (readName_any b s x _ hs HE.out ha h'.out).mono ?_
  rintro e w1 (⟨rfl, hok⟩ | ⟨hb1, q, hq⟩)
  · obtain ⟨r1, r2, r3, r4, r5⟩ := rname_ok HE.out ha hok.e
    have hok' : Hid (POk s b w w1 (rname s x).1) := hok
    have R : Hid ((rname s x).1 = ⟨scan letterB s x.a, x.e, x.p⟩ ∧ lineAt s (scan letterB s x.a) = lineAt s x.a) := ⟨r1, r5⟩
    have hlt1 := hok.pc.lt
    clear r1 r2 r3 r4 r5 hok
    cases hh : has ms (rname s x).2
    · have D : Hid (rmName s ms x = (rname s x).1) := by unfold Hid rmName; rw [if_neg (by rw [hh]; simp)]
      go_wp2_with fail
      refine (has_any ms vs _ base n (rname s x).2 _ hl hn hn4 Hi.out (ownsS_kc Ho.out hok'.out.kc.kb hb)).mono ?_
      rintro e w2 ⟨rfl, hB⟩
      have HB : Hid (Below w1.heap.size w1 w2) := hB
      clear hB
      rw [hh]
      go_wp2_with fail
      go_ret
      refine .inl ?_
      rw [D.out]
      exact ⟨rfl, hok'.out.e, hok'.out.pc.below hlt1 HB.out, hok'.out.kc.trans (below_kc HB.out hlt1 (Nat.le_refl _))⟩
    · have D : Hid (rmName s ms x = ⟨(rname s x).1.a, 6, x.a⟩) := by unfold Hid rmName; rw [if_pos hh, rno_on _ _ _ hok'.out.e]
      go_wp2_with fail
      refine (has_any ms vs _ base n (rname s x).2 _ hl hn hn4 Hi.out (ownsS_kc Ho.out hok'.out.kc.kb hb)).mono ?_
      rintro e w2 ⟨rfl, hB⟩
      have HB : Hid (Below w1.heap.size w1 w2) := hB
      clear hB
      rw [hh]
      go_wp2_with fail
      refine (fail_any b s (rname s x).1.a 6 _ (hok'.out.pc.below hlt1 HB.out)).mono ?_
      rintro e w3 ⟨q, hq⟩
      have he' := hq.e
      subst he'
      refine ⟨rfl, .inr ?_⟩
      rw [D.out]
      rw [R.out.1] at hq
      have hq2 := hq
      simp only at hq2
      rw [R.out.2] at hq2
      exact ⟨by simp, q, hq2.trans (hok'.out.kc.kb.trans (below_kc HB.out hlt1 (Nat.le_refl _)).kb)⟩
  · have he' := hq.e
    subst he'
    refine ⟨rfl, .inr ?_⟩
    have D : rmName s ms x = (rname s x).1 := by
      unfold rmName
      split
      · exact rno_off _ _ _ hb1
      · rfl
    rw [D]
    exact ⟨hb1, q, hq⟩

/-- A member's value, from behind its name on. -/
def rmVal (s : ByteArray) (f : St → St × V) (x : St) : St × V := f (rblanks s (rmust s (rblanks s x false) 61) false)
theorem rmVal_off {s : ByteArray} {f : St → St × V} (hf : ∀ z, Stk z (f z).1) {x : St} (h : (rmust s (rblanks s x false) 61).e ≠ 0) : (rmVal s f x).1.e = (rmust s (rblanks s x false) 61).e ∧ (rmVal s f x).1.p = (rmust s (rblanks s x false) 61).p :=
  hf (rblanks s (rmust s (rblanks s x false) 61) false) h
set_option maxHeartbeats 1000000 in
theorem readMemberValue_any (d nest b : Nat) (s : ByteArray) (f : St → St × V) (x : St) (m : Int) (w : World) (hs : s.size ≤ 4000) (he : x.e = 0) (ha : x.a ≤ s.size) (hG : 1 < b)
    (hst : ∀ z, Stk z (f z).1) (hgf : GdF s f) (hV : PValF f d nest b s m) (hm : w.cell? ⟨1, 0, none⟩ = some (.int .i64 m)) (h : PC w b s x.a) :
    Calls Tryz.prog 150 #[.pointer (some ⟨b, 0, none⟩), .int .i64 nest] w fun e w' =>
      (∃ v, e = .returned v ∧ PVal d w.heap.size w'.heap.size w' v (rmVal s f x).2 ∧ POk s b w w' (rblanks s (rmVal s f x).1 false) ∧ x.a ≤ (rblanks s (rmVal s f x).1 false).a ∧ (rblanks s (rmVal s f x).1 false).a ≤ s.size) ∨ PBad s b w e w' (rblanks s (rmVal s f x).1 false) := by
  have h' : Hid (PC w b s x.a) := h
  have HV : Hid (PValF f d nest b s m) := hV
  have Hm : Hid _ := hm
  have HE : Hid (x.e = 0) := he
  have Hst : Hid _ := hst
  have Hgf : Hid (GdF s f) := hgf
  clear h hV hm he hst hgf
  have hz1 : (rblanks s x false).a ≤ s.size := scan_le _ _ _ ha
  have hz2 : x.a ≤ (rblanks s x false).a := scan_ge _ _ _
  have F1 : Hid ((rmust s (rblanks s x false) 61).e ≠ 0 → (rmVal s f x).1.e = (rmust s (rblanks s x false) 61).e ∧ (rmVal s f x).1.p = (rmust s (rblanks s x false) 61).p) := fun hb => rmVal_off Hst.out hb
  have F2 : Hid (rmVal s f x = f (rblanks s (rmust s (rblanks s x false) 61) false)) := rfl
  go_enter Tryz.func150, Tryz.ntmps150
  go_wp2_with fail
  refine (pblanks_any b s x.a _ hs ha h'.out).mono ?_
  rintro e w1 ⟨rfl, hp1, hk1⟩
  have HP1 : Hid (PC w1 b s (rblanks s x false).a) := hp1
  have HK1 : Hid (Kc b w w1) := hk1
  have HE1 : Hid ((rblanks s x false).e = 0) := HE.out
  clear hp1 hk1
  generalize rblanks s x false = x1 at *
  go_wp2_with fail
  refine (pass_any b s x1 61 _ hs HE1.out hz1 (by decide) HP1.out).mono ?_
  rintro e w2 (⟨rfl, hok⟩ | ⟨hb1, q, hq⟩)
  · have hok' : Hid (POk s b w1 w2 (rmust s x1 61)) := hok
    have hgm := gd_must (Gd.refl (x := x1) (s := s) ⟨by omega, fun _ => hz1⟩) 61
    have hx2 : (rmust s x1 61).a ≤ s.size := hgm.1.2 hok.e
    have hx2' := hgm.2
    clear hok hgm
    generalize rmust s x1 61 = x2 at *
    go_wp2_with fail
    refine (pblanks_any b s x2.a _ hs hx2 hok'.out.pc).mono ?_
    rintro e w3 ⟨rfl, hp3, hk3⟩
    have HP3 : Hid (PC w3 b s (rblanks s x2 false).a) := hp3
    have HK3 : Hid (Kc b w w3) := (HK1.out.trans hok'.out.kc).trans hk3
    have HE3 : Hid ((rblanks s x2 false).e = 0) := hok'.out.e
    have hx3 : (rblanks s x2 false).a ≤ s.size := scan_le _ _ _ hx2
    have hx3' : x2.a ≤ (rblanks s x2 false).a := scan_ge _ _ _
    clear hp3 hk3
    generalize rblanks s x2 false = x3 at *
    have hgd := Hgf.out x3 ⟨by omega, fun _ => hx3⟩
    go_wp2_with fail
    refine (HV.out x3 _ HE3.out hx3 (cell_kc (b := b) Hm.out hG HK3.out) HP3.out).mono ?_
    rintro e w4 (⟨v, rfl, hpv, hok4⟩ | ⟨hb4, q, hq⟩)
    · obtain ⟨vt, vu, rfl⟩ := hpv.iface
      have hpv' : Hid (PVal d w3.heap.size w4.heap.size w4 (.iface vt vu) (f x3).2) := hpv
      have hok4' : Hid (POk s b w3 w4 (f x3).1) := hok4
      have hgd1 : (f x3).1.a ≤ s.size := hgd.1.2 hok4.e
      have hgd2 := hgd.2
      clear hpv hok4 hgd
      go_wp2_with fail
      refine (pblanks_any b s (f x3).1.a _ hs hgd1 hok4'.out.pc).mono ?_
      rintro e w5 ⟨rfl, hp5, hk5⟩
      have HP5 : Hid (PC w5 b s (rblanks s (f x3).1 false).a) := hp5
      have HK5 : Hid (Kc b w4 w5) := hk5
      clear hp5 hk5
      have hx5 : (rblanks s (f x3).1 false).a ≤ s.size := scan_le _ _ _ hgd1
      have hx5' : (f x3).1.a ≤ (rblanks s (f x3).1 false).a := scan_ge _ _ _
      go_wp2_with fail
      go_ret
      refine .inl ⟨_, rfl, ?_, ?_, ?_, ?_⟩
      · rw [F2.out]
        have z3 := HK3.out.kb.size
        exact (hpv'.out.frame (fun k k1 k2 => HK5.out.kb.block k k2 (by have := h'.out.lt; omega))).wide z3 HK5.out.kb.size
      · rw [F2.out]
        exact ⟨hok4'.out.e, HP5.out, (HK3.out.trans hok4'.out.kc).trans HK5.out⟩
      · rw [F2.out]; omega
      · rw [F2.out]; exact hx5
    · have he' := hq.e
      subst he'
      refine ⟨rfl, .inr ?_⟩
      rw [F2.out]
      exact PBad.same ⟨hb4, q, hq.trans HK3.out.kb⟩ rfl rfl
  · have he' := hq.e
    subst he'
    refine ⟨rfl, .inr ?_⟩
    exact PBad.same ⟨hb1, q, hq.trans HK1.out.kb⟩ (F1.out hb1).1 (F1.out hb1).2
end Go.Proofs.YtdebjhdafnpfkaaGreatDoor

namespace Go.Proofs.YtdebjhdafnpfkaaGreatDoor
open Go.ChangeShapes Go.WideShapes Go.ChangeAt Go.RowKit
set_option linter.unusedVariables false
set_option linter.unusedSimpArgs false

theorem skip_end (p : Nat → Bool) (s : ByteArray) : ∀ n a, s.size ≤ a + n → skip p s n a < s.size → p (bt s (skip p s n a)) = false
  | 0, a, h, hl => by
    have : skip p s 0 a = a := rfl
    omega
  | n + 1, a, h, hl => by
    unfold skip at *
    by_cases hc : a < s.size ∧ p (bt s a) = true
    · rw [if_pos hc] at hl ⊢
      exact skip_end p s n (a + 1) (by omega) hl
    · rw [if_neg hc] at hl ⊢
      cases hp : p (bt s a)
      · rfl
      · exact absurd ⟨hl, hp⟩ hc
theorem scan_idem (p : Nat → Bool) (s : ByteArray) (a : Nat) : scan p s (scan p s a) = scan p s a :=
  scan_stop _ _ _ (fun h => skip_end p s (s.size - a) a (by omega) h)
theorem rblanks_idem (s : ByteArray) (x : St) (l : Bool) : rblanks s (rblanks s x l) l = rblanks s x l := by
  unfold rblanks
  simp only
  rw [scan_idem]
theorem rmember_eq (s : ByteArray) (f : St → St × V) (m : List ByteArray) (x : St) :
    rmember s f m x = (rblanks s (rmVal s f (rmName s m (rblanks s x false))).1 false, (rmVal s f (rmName s m (rblanks s x false))).2, (rname s (rblanks s x false)).2) := rfl
theorem groupLoop_more (s : ByteArray) (f : St → St × V) (n : Nat) (y : St) (l : List V) (m : List ByteArray) (he : y.e = 0) (hb : (rmember s f m y).1.e = 0) (hc : bt s (rmember s f m y).1.a = 44) :
    rgroupLoop s f (n + 1) y l m = rgroupLoop s f n ⟨(rmember s f m y).1.a + 1, (rmember s f m y).1.e, (rmember s f m y).1.p⟩ (l ++ [(rmember s f m y).2.1]) (m ++ [(rmember s f m y).2.2]) := by
  simp only [rgroupLoop]
  rw [if_neg (by simp [he]), ris_pk s _ 44 hb (by decide), if_pos (by simpa using hc)]
theorem groupLoop_last (s : ByteArray) (f : St → St × V) (n : Nat) (y : St) (l : List V) (m : List ByteArray) (he : y.e = 0) (hb : (rmember s f m y).1.e = 0) (hc : bt s (rmember s f m y).1.a ≠ 44) :
    rgroupLoop s f (n + 1) y l m = ((rmember s f m y).1, l ++ [(rmember s f m y).2.1], m ++ [(rmember s f m y).2.2]) := by
  simp only [rgroupLoop]
  rw [if_neg (by simp [he]), ris_pk s _ 44 hb (by decide), if_neg (by simpa using hc)]
theorem groupLoop_bad (s : ByteArray) (f : St → St × V) (n : Nat) (y : St) (l : List V) (m : List ByteArray) (he : y.e = 0) (hb : (rmember s f m y).1.e ≠ 0) :
    rgroupLoop s f (n + 1) y l m = ((rmember s f m y).1, l ++ [(rmember s f m y).2.1], m ++ [(rmember s f m y).2.2]) := by
  simp only [rgroupLoop]
  rw [if_neg (by simp [he]), ris_off s _ 44 hb, if_neg (by simp)]
/-- What a group comes to, behind its pairs. -/
def grp (s : ByteArray) (r : St × List V × List ByteArray) : St × V := (rmust s r.1 125, ⟨103, 0, ⟨#[]⟩, r.2.1, r.2.2⟩)
theorem rgroup_none (s : ByteArray) (f : St → St × V) (x : St) (he : x.e = 0) (h : bt s (rblanks s ⟨x.a + 1, x.e, x.p⟩ false).a = 125) : rgroup s f x = grp s (rblanks s ⟨x.a + 1, x.e, x.p⟩ false, [], []) := by
  simp only [rgroup, grp]
  rw [ris_pk s (rblanks s ⟨x.a + 1, x.e, x.p⟩ false) 125 (by exact he) (by decide), if_pos (by simpa using h), rmust_hit s (rblanks s ⟨x.a + 1, x.e, x.p⟩ false) 125 (by exact he) (by decide) h]
theorem rgroup_some (s : ByteArray) (f : St → St × V) (x : St) (he : x.e = 0) (h : bt s (rblanks s ⟨x.a + 1, x.e, x.p⟩ false).a ≠ 125) : rgroup s f x = grp s (rgroupLoop s f (s.size + 3 - x.a) (rblanks s ⟨x.a + 1, x.e, x.p⟩ false) [] []) := by
  simp only [rgroup, grp]
  rw [ris_pk s (rblanks s ⟨x.a + 1, x.e, x.p⟩ false) 125 (by exact he) (by decide), if_neg (by simpa using h)]
theorem PCh.ifaces {d : Nat} {w : World} {q : Nat} {lv : Value} {vs : List Value} {l : List V} (h : PCh d w q lv vs l) : ∀ v ∈ vs, ∃ t u, v = .iface t u := by
  intro v hv
  obtain ⟨i, hi⟩ := List.getElem?_of_mem hv
  have hl : i < vs.length := (List.getElem?_eq_some_iff.1 hi).1
  obtain ⟨lo, hi', _, _, _, hp⟩ := h.2 i v (l[i]'(by rw [← h.1]; exact hl)) hi (List.getElem?_eq_getElem _)
  exact hp.iface
theorem info_member : (Tryz.prog.info? 238).map (fun i => (i.zero, i.size, i.bytes)) = some (some (.agg #[.string ⟨#[]⟩, .nilIface]), 2, 32) := by kernel_rfl
theorem cell_two_new (w : World) (x y : Value) (t : TypeId) : ∀ j u, [x, y][j]? = some u → (w.alloc (.cells #[x, y] t)).cell? ((⟨w.heap.size, 0, none⟩ : Addr).add j) = some u := by
  intro j u hj
  match j, hj with
  | 0, hj =>
    simp at hj
    subst hj
    simp [Addr.add]
  | 1, hj =>
    simp at hj
    subst hj
    simp [Addr.add]
theorem rmName_a {s : ByteArray} {ms : List ByteArray} {x : St} (he : x.e = 0) (ha : x.a ≤ s.size) (h : (rmName s ms x).e = 0) : x.a < (rmName s ms x).a ∧ (rmName s ms x).a ≤ s.size := by
  unfold rmName at *
  by_cases hh : has ms (rname s x).2 = true
  · rw [if_pos hh] at h
    by_cases h0 : (rname s x).1.e = 0
    · rw [rno_on _ _ _ h0] at h; cases h
    · rw [rno_off _ _ _ h0] at h; exact absurd h h0
  · rw [if_neg hh] at h ⊢
    obtain ⟨r1, r2, r3, _, _⟩ := rname_ok he ha h
    rw [r1]
    exact ⟨r2, r3⟩
theorem rmVal_stk {s : ByteArray} {f : St → St × V} (hf : ∀ z, Stk z (f z).1) (x : St) : Stk x (rmVal s f x).1 :=
  (((stk_blanks s x false).trans (stk_must s _ 61)).trans (stk_blanks s _ false)).trans (hf _)

set_option maxRecDepth 100000 in
set_option maxHeartbeats 4000000 in
theorem readGroup_any (d nest b : Nat) (s : ByteArray) (f : St → St × V) (x : St) (m : Int) (w : World) (hs : s.size ≤ 4000) (he : x.e = 0) (hq : bt s x.a = 123) (hn6 : nest ≤ 6) (hG : 1 < b)
    (hst : ∀ z, Stk z (f z).1) (hgf : GdF s f) (hV : PValF f d nest b s m) (hm : w.cell? ⟨1, 0, none⟩ = some (.int .i64 m)) (h : PC w b s x.a) :
    Calls Tryz.prog 137 #[.pointer (some ⟨b, 0, none⟩), .int .i64 nest] w fun e w' =>
      (∃ gv, e = .returned gv ∧ PVal (d + 1) w.heap.size w'.heap.size w' (.iface 223 gv) (rgroup s f x).2 ∧ POk s b w w' (rgroup s f x).1) ∨ PBad s b w e w' (rgroup s f x).1 := by
  obtain ⟨i0, hi, hz0, hz1, hz2⟩ := info_parts info_member
  have ha := bt_lt' s x.a 123 hq (by decide)
  have h' : Hid (PC w b s x.a) := h
  have hltw := h.lt
  have HV : Hid (PValF f d nest b s m) := hV
  have Hm : Hid _ := hm
  have Hgf : Hid (GdF s f) := hgf
  have Hst : Hid (∀ z, Stk z (f z).1) := hst
  have M : Hid (rmust s x 123 = ⟨x.a + 1, x.e, x.p⟩) := rmust_hit s x 123 he (by decide) hq
  have HE : Hid (x.e = 0) := he
  have G0 : Hid (bt s (rblanks s ⟨x.a + 1, x.e, x.p⟩ false).a = 125 → rgroup s f x = grp s (rblanks s ⟨x.a + 1, x.e, x.p⟩ false, [], [])) := rgroup_none s f x he
  have G1 : Hid (bt s (rblanks s ⟨x.a + 1, x.e, x.p⟩ false).a ≠ 125 → rgroup s f x = grp s (rgroupLoop s f (s.size + 3 - x.a) (rblanks s ⟨x.a + 1, x.e, x.p⟩ false) [] [])) := rgroup_some s f x he
  clear he hq h hV hm hgf hst
  go_enter Tryz.func137, Tryz.ntmps137
  go_wp2_with fail
  refine (pass_any b s x 123 _ hs HE.out (by omega) (by decide) h'.out).mono ?_
  rintro e w1 (⟨rfl, hok⟩ | ⟨hb, _⟩)
  · rw [M.out] at hok
    have hok' : Hid (POk s b w w1 ⟨x.a + 1, x.e, x.p⟩) := hok
    clear hok
    go_wp2_with fail
    refine (pblanks_any b s (x.a + 1) _ hs (by omega) hok'.out.pc).mono ?_
    rintro e w2 ⟨rfl, hp2, hk2⟩
    have HP2 : Hid (PC w2 b s (rblanks s ⟨x.a + 1, x.e, x.p⟩ false).a) := hp2
    have HK2 : Hid (Kc b w w2) := hok'.out.kc.trans hk2
    have hx1 : (rblanks s ⟨x.a + 1, x.e, x.p⟩ false).a ≤ s.size := scan_le _ _ _ (by show x.a + 1 ≤ _; omega)
    have hx1' : x.a + 1 ≤ (rblanks s ⟨x.a + 1, x.e, x.p⟩ false).a := scan_ge _ _ _
    have HE1 : Hid ((rblanks s ⟨x.a + 1, x.e, x.p⟩ false).e = 0) := HE.out
    have Hid1 : Hid (rblanks s (rblanks s ⟨x.a + 1, x.e, x.p⟩ false) false = rblanks s ⟨x.a + 1, x.e, x.p⟩ false) := rblanks_idem _ _ _
    clear hp2 hk2 hok' h'
    generalize rblanks s ⟨x.a + 1, x.e, x.p⟩ false = x1 at *
    go_wp2_with fail
    refine (peek_any b s x1.a _ hs hx1 HP2.out).mono ?_
    rintro e w3 ⟨rfl, k3, rfl⟩
    have HP3 : Hid (PC (w2.drewN k3) b s x1.a) := HP2.out.drewN k3
    have HK3 : Hid (Kc b w (w2.drewN k3)) := HK2.out.drewN k3
    clear HP2 HK2
    generalize w2.drewN k3 = w3 at *
    go_wp2_with fail
    go_loopw [5, 6] (fun u5 u6 wr => ∃ (z : St) (l : List V) (ms : List ByteArray) (vs : List Value), Hid (Kc b w wr) ∧ z.a ≤ s.size ∧ Hid (z.e = 0) ∧ Hid (PC wr b s z.a) ∧ vs.length ≤ z.a ∧ ms.length = vs.length ∧
        Hid (wr.ownsRow w.heap.size 238 2 u5 vs.length (mem2 ms vs)) ∧ Hid (PCh d wr w.heap.size u5 vs l) ∧
        ((u6 = .bool true ∧ ∃ (n : Nat) (y : St), Hid (rgroup s f x = grp s (rgroupLoop s f (n + 1) y l ms)) ∧ Hid (rblanks s y false = z) ∧ s.size + 2 ≤ n + z.a) ∨
         (u6 = .bool false ∧ Hid (rgroup s f x = grp s (z, l, ms))))) (fun _ _ wr => s.size + 1 - atOf wr b)
    case atStart =>
      refine ⟨x1, [], [], [], HK3, hx1, HE1, HP3, Nat.zero_le _, rfl, World.ownsRow_nil _ _ _ _, PCh.nil _ _ _ _, ?_⟩
      by_cases h125 : bt s x1.a = 125
      · right
        exact ⟨by congr 1; simp; omega, G0.out h125⟩
      · left
        refine ⟨by congr 1; simp; omega, s.size + 2 - x.a, x1, ?_, Hid1, by omega⟩
        unfold Hid
        rw [show s.size + 2 - x.a + 1 = s.size + 3 - x.a by omega]
        exact G1.out h125
    case round =>
      clear M HP3 HK3 G0 G1 HE1 Hid1 hx1 hx1'
      obtain ⟨z, l, ms, vs, hk, hza, hze, h1, hvs, hml, hown, hch, hcase⟩ := hrel
      obtain ⟨ad0, cap0, hv0⟩ := ownsS_form hown.out
      subst hv0
      have hifs : Hid (∀ v ∈ vs, ∃ t u, v = .iface t u) := hch.out.ifaces
      rcases hcase with ⟨rfl, n, y, hr, hyz, hn⟩ | ⟨rfl, hfin⟩
      · have hye : Hid (y.e = 0) := by
          unfold Hid
          have := hze.out
          rw [← hyz.out] at this
          exact this
        have E0 : Hid (rmember s f ms y = (rblanks s (rmVal s f (rmName s ms z)).1 false, (rmVal s f (rmName s ms z)).2, (rname s z).2)) := by
          unfold Hid
          rw [rmember_eq, hyz.out]
        have hyz' := hyz.out
        have D1 : Hid ((rmember s f ms y).1.e ≠ 0 → (rgroup s f x).1 = (rmember s f ms y).1) := fun hb => by
          rw [hr.out, groupLoop_bad s f n y l ms hye.out hb]
          exact rmust_off _ _ _ hb
        have D2 : Hid ((rmember s f ms y).1.e = 0 → bt s (rmember s f ms y).1.a = 44 → rgroup s f x = grp s (rgroupLoop s f n ⟨(rmember s f ms y).1.a + 1, (rmember s f ms y).1.e, (rmember s f ms y).1.p⟩ (l ++ [(rmember s f ms y).2.1]) (ms ++ [(rmember s f ms y).2.2]))) := fun hb hc => by
          rw [hr.out, groupLoop_more s f n y l ms hye.out hb hc]
        have D3 : Hid ((rmember s f ms y).1.e = 0 → bt s (rmember s f ms y).1.a ≠ 44 → rgroup s f x = grp s ((rmember s f ms y).1, l ++ [(rmember s f ms y).2.1], ms ++ [(rmember s f ms y).2.2])) := fun hb hc => by
          rw [hr.out, groupLoop_last s f n y l ms hye.out hb hc]
        rw [E0.out] at D1 D2 D3
        clear hyz' E0 hr hyz hye
        go_wp2_with fail
        refine (readMemberName_any b s z ms vs _ w.heap.size vs.length _ hs hze.out hza hltw hml rfl (by omega) hifs.out hown.out h1.out).mono ?_
        rintro e w4 (⟨rfl, hok⟩ | ⟨hb1, q, hq⟩)
        · obtain ⟨n1, n2⟩ := rmName_a hze.out hza hok.e
          have hok' : Hid (POk s b wr w4 (rmName s ms z)) := hok
          clear hok
          go_wp2_with fail
          refine (readMemberValue_any d nest b s f (rmName s ms z) m _ hs hok'.out.e n2 hG Hst.out Hgf.out HV.out (cell_kc (b := b) Hm.out hG (hk.out.trans hok'.out.kc)) hok'.out.pc).mono ?_
          rintro e w5 (⟨v, rfl, hpv, hok5, hg1, hg2⟩ | ⟨hb1, q, hq⟩)
          · obtain ⟨vt, vu, rfl⟩ := hpv.iface
            have hpv' : Hid (PVal d w4.heap.size w5.heap.size w5 (.iface vt vu) (rmVal s f (rmName s ms z)).2) := hpv
            have hok5' : Hid (POk s b w4 w5 (rblanks s (rmVal s f (rmName s ms z)).1 false)) := hok5
            have hlt5 := hok5.pc.lt
            clear hpv hok5
            generalize hq3 : rblanks s (rmVal s f (rmName s ms z)).1 false = z5 at *
            clear hq3
            generalize (rmVal s f (rmName s ms z)).2 = vv at *
            generalize (rname s z).2 = nm at *
            generalize hq4 : rmName s ms z = z4 at *
            clear hq4
            have hkr : Hid (Kc b wr w5) := hok'.out.kc.trans hok5'.out.kc
            have hzr := hk.out.kb.size
            have hz4 := hok'.out.kc.kb.size
            have hz5 := hok5'.out.kc.kb.size
            have hown5 : Hid (w5.ownsRow w.heap.size 238 2 (.slice ad0 vs.length cap0) vs.length (mem2 ms vs)) := ownsS_kc hown.out hkr.out.kb hltw
            have hch5 : Hid (PCh d w5 w.heap.size (.slice ad0 vs.length cap0) (vs ++ [Value.iface vt vu]) (l ++ [vv])) :=
              (hch.out.kb hkr.out.kb hltw).snoc (Nat.le_trans hzr hz4) (Nat.le_refl _) (fun k e => Nat.lt_of_lt_of_le (hown.out.lt k e).2 hz4) hpv'.out
            go_wp2_with (at_builtin; refine wpList_append_own_at _ rfl (.tmp 25) (.tmp 31) 223 rfl w.heap.size 238 i0 (.agg #[.string ⟨#[]⟩, .nilIface]) 2 32 Tryz.underlying223 hi hz0 hz1 hz2 rfl (by decide) _ _ _ rfl (hown5.out.alloc _) ⟨w5.heap.size, 0, none⟩ 1 1 [.string nm, .iface vt vu] rfl rfl (cell_two_new _ _ _ _) (by intro u hu; simp at hu; rcases hu with rfl | rfl <;> rfl) (by unfold maxLen; omega) (by omega) (by simp; omega) ?_; intro v1 w6 hown6 hgrow6 hnil6 hat6; refine Hid.out ?_)
            have hch6 : Hid (PCh d w6 w.heap.size v1 (vs ++ [Value.iface vt vu]) (l ++ [vv])) := (hch5.out.alloc _).grow hgrow6 hat6
            have hp6 : Hid (PC w6 b s z5.a) := (hok5'.out.pc.alloc _).grown hgrow6 (ownsS_ne hown5.out hltw)
            have hk6 : Hid (Kc b w w6) := ((hk.out.trans hkr.out).alloc hlt5 _).grown hltw hgrow6 (fun k hk => (hown5.out.lt k hk).1)
            have hown6' : Hid (w6.ownsRow w.heap.size 238 2 v1 (vs ++ [Value.iface vt vu]).length (mem2 (ms ++ [nm]) (vs ++ [Value.iface vt vu]))) := by
              unfold Hid
              rw [mem2_snoc nm _ ms vs hml]
              simpa using hown6
            clear hown6 hgrow6 hnil6 hat6 hown5 hch5 hown hch hifs
            obtain ⟨ad6, cap6, hv6⟩ := ownsS_form hown6'.out
            subst hv6
            have hpl : (vs ++ [Value.iface vt vu]).length = vs.length + 1 := by simp
            have Hpl : Hid _ := hpl
            have hml2 : (ms ++ [nm]).length = (vs ++ [Value.iface vt vu]).length := by simp [hml]
            have Hml2 : Hid _ := hml2
            clear hpl hml2
            generalize (vs ++ [Value.iface vt vu]) = vs2 at *
            generalize (ms ++ [nm]) = ms2 at *
            generalize (l ++ [vv]) = l2 at *
            unfold Hid
            by_cases hc : bt s z5.a = 44
            · have t1 : ((bt s z5.a : Int) == 44) = true := by simp; omega
              have DD : Hid _ := D2.out hok5'.out.e hc
              have Hc : Hid (bt s z5.a = 44) := hc
              clear hc
              have hl7 : z5.a < s.size := bt_lt' s _ 44 Hc.out (by decide)
              go_wp2_with fail
              refine (peek_any b s z5.a _ hs hg2 hp6.out).mono ?_
              rintro e w7 ⟨rfl, k7, rfl⟩
              go_wp2_with fail
              refine (step_any b s z5.a _ hs hl7 (hp6.out.drewN k7)).mono ?_
              rintro e w8 ⟨rfl, hp8, hk8⟩
              have HP8 : Hid (PC w8 b s (z5.a + 1)) := hp8
              have HK8 : Hid (Kc b w6 w8) := ((Kc.refl _ _).drewN k7).trans hk8
              clear hp8 hk8
              go_wp2_with fail
              refine (pblanks_any b s (z5.a + 1) _ hs (by omega) HP8.out).mono ?_
              rintro e w9 ⟨rfl, hp9, hk9⟩
              have HP9 : Hid (PC w9 b s (rblanks s ⟨z5.a + 1, z5.e, z5.p⟩ false).a) := hp9
              have HK9 : Hid (Kc b w6 w9) := HK8.out.trans hk9
              clear hp9 hk9
              have hsg : z5.a + 1 ≤ (rblanks s ⟨z5.a + 1, z5.e, z5.p⟩ false).a := scan_ge _ _ _
              have hsl : (rblanks s ⟨z5.a + 1, z5.e, z5.p⟩ false).a ≤ s.size := scan_le _ _ _ (by show z5.a + 1 ≤ _; omega)
              obtain ⟨n', hn'⟩ : ∃ n', n = n' + 1 := ⟨n - 1, by omega⟩
              subst hn'
              go_wp2_with fail
              go_roundw
              case rel =>
                refine ⟨rblanks s ⟨z5.a + 1, z5.e, z5.p⟩ false, l2, ms2, vs2, hk6.out.trans HK9.out, hsl, hok5'.out.e, HP9, by rw [Hpl.out]; omega, Hml2.out, ownsS_kc hown6'.out HK9.out.kb hltw, hch6.out.kb HK9.out.kb hltw, .inl ⟨rfl, n', ⟨z5.a + 1, z5.e, z5.p⟩, DD, rfl, by omega⟩⟩
              case measure =>
                rw [HP9.out.atOf, h1.out.atOf]
                omega
            · have t1 : ((bt s z5.a : Int) == 44) = false := by simp; omega
              have DD : Hid _ := D3.out hok5'.out.e hc
              clear hc
              go_wp2_with fail
              refine (peek_any b s z5.a _ hs hg2 hp6.out).mono ?_
              rintro e w7 ⟨rfl, k7, rfl⟩
              go_wp2_with fail
              go_roundw
              case rel =>
                refine ⟨z5, l2, ms2, vs2, hk6.out.drewN k7, hg2, hok5'.out.e, hp6.out.drewN k7, by rw [Hpl.out]; omega, Hml2.out, ownsS_kc hown6'.out ((Kb.refl b w6).drewN k7) hltw, hch6.out.kb ((Kb.refl b w6).drewN k7) hltw, .inr ⟨rfl, DD⟩⟩
              case measure =>
                rw [(hp6.out.drewN k7).atOf, h1.out.atOf]
                omega
          · have he' := hq.e
            subst he'
            refine ⟨rfl, .inr ?_⟩
            rw [D1.out hb1]
            exact ⟨hb1, q, hq.trans (hk.out.kb.trans hok'.out.kc.kb)⟩
        · have he' := hq.e
          subst he'
          refine ⟨rfl, .inr ?_⟩
          have hsk := rmVal_stk (s := s) Hst.out (rmName s ms z) hb1
          have hb2 : (rblanks s (rmVal s f (rmName s ms z)).1 false).e ≠ 0 := by
            show (rmVal s f (rmName s ms z)).1.e ≠ 0
            rw [hsk.1]
            exact hb1
          rw [D1.out hb2]
          exact PBad.same ⟨hb1, q, hq.trans hk.out.kb⟩ hsk.1 hsk.2
      · go_wp2_with fail
        refine (pass_any b s z 125 _ hs hze.out hza (by decide) h1.out).mono ?_
        rintro e w4 (⟨rfl, hok⟩ | ⟨hb1, q, hq⟩)
        · have hok' : Hid (POk s b wr w4 (rmust s z 125)) := hok
          clear hok
          go_wp2_with fail
          go_ret
          refine .inl ⟨_, rfl, ?_, ?_⟩
          · rw [hfin.out]
            exact (hch.out.kb hok'.out.kc.kb hltw).group rfl hml (ownsS_kc hown.out hok'.out.kc.kb hltw)
          · rw [hfin.out]
            exact ⟨hok'.out.e, hok'.out.pc, hk.out.trans hok'.out.kc⟩
        · have he' := hq.e
          subst he'
          refine ⟨rfl, .inr ?_⟩
          rw [hfin.out]
          exact ⟨hb1, q, hq.trans hk.out.kb⟩
  · rw [M.out] at hb
    exact absurd HE.out hb
end Go.Proofs.YtdebjhdafnpfkaaGreatDoor

namespace Go.Proofs.YtdebjhdafnpfkaaGreatDoor
open Go.ChangeShapes Go.WideShapes Go.ChangeAt Go.RowKit
set_option linter.unusedVariables false
set_option linter.unusedSimpArgs false

theorem stk_val (s : ByteArray) : ∀ (d nest : Nat) (x : St), Stk x (rval s d nest x).1
  | 0, nest, x => Stk.refl x
  | d + 1, nest, x => fun he => by
    simp only [rval]
    rw [if_pos (.inl he)]
    exact stk_no x 3 x.a he
theorem rword_end (s : ByteArray) (x : St) (he : x.e = 0) (ha : s.size ≤ x.a) : (rword s x).1 = ⟨x.a, 3, x.a⟩ := by
  have h0 := bt_end s x.a ha
  have e1 : ris s x 45 = false := by rw [ris_pk s x 45 he (by decide), h0]; rfl
  have e2 : ris s x 43 = false := by rw [ris_pk s x 43 he (by decide), h0]; rfl
  have e3 : scan letterB s x.a = x.a := scan_stop _ _ _ (fun h => by omega)
  have e4 : s.extract x.a x.a = ⟨#[]⟩ := ext_self s x.a
  unfold rword
  rw [e1, e2]
  simp only [Bool.false_eq_true, or_self, if_false]
  rw [rwordAt_num _ _ _ _ _ (by rw [e3, e4]; rintro ⟨_, _, q | q⟩ <;> exact absurd (congrArg ByteArray.size q) (by decide)), e3, e4]
  rw [if_pos (by decide), rno_on _ _ _ (by exact he)]
theorem rval_succ (s : ByteArray) (d nest : Nat) (x : St) (he : x.e = 0) : rval s (d + 1) nest x =
    if s.size ≤ x.a then (⟨x.a, 3, x.a⟩, V0)
    else if (bt s x.a = 91 ∨ bt s x.a = 123) ∧ 6 ≤ nest then (⟨x.a, 5, x.a⟩, V0)
    else if bt s x.a = 34 then rtext s x
    else if bt s x.a = 91 then rlist s (rval s d (nest + 1)) x
    else if bt s x.a = 123 then rgroup s (rval s d (nest + 1)) x
    else rword s x := by
  simp only [rval, he, ne_eq, not_true_eq_false, false_or]
  rw [rno_on _ _ _ he, rno_on _ _ _ he]

set_option maxHeartbeats 2000000 in
theorem readValue_step (d nest b : Nat) (s : ByteArray) (m : Int) (hs : s.size ≤ 4000) (hn : nest ≤ 6) (hG : 1 < b) (hV : nest < 6 → PValC d (nest + 1) b s m) : PValC (d + 1) nest b s m := by
  intro x w he ha hm h
  have R : Hid _ := rval_succ s d nest x he
  have h' : Hid (PC w b s x.a) := h
  have Hm : Hid _ := hm
  have HE : Hid (x.e = 0) := he
  have HV : Hid (nest < 6 → PValC d (nest + 1) b s m) := hV
  clear h hm he hV
  by_cases h34 : bt s x.a = 34
  · have t1 : ((bt s x.a : Int) == 34) = true := by simp; omega
    have hl := bt_lt' s x.a 34 h34 (by decide)
    have D : Hid (rval s (d + 1) nest x = rtext s x) := by
      unfold Hid
      rw [R.out, if_neg (by omega), if_neg (by omega), if_pos h34]
    have H34 : Hid (bt s x.a = 34) := h34
    clear h34 R
    go_enter Tryz.func122, Tryz.ntmps122
    go_wp2_with fail
    refine (peek_any b s x.a _ hs ha h'.out).mono ?_
    rintro e w1 ⟨rfl, k1, rfl⟩
    go_wp2_with fail
    refine (readText_any b s x _ hs HE.out H34.out (h'.out.drewN k1)).mono ?_
    rintro e w2 (⟨rfl, hok⟩ | ⟨hb1, q, hq⟩)
    · have hok' : Hid (POk s b (w.drewN k1) w2 (rtext s x).1) := hok
      clear hok
      go_wp2_with fail
      go_ret
      refine .inl ⟨_, rfl, ?_, ?_⟩
      · rw [D.out]; exact leaf_text _ _ _ _ _
      · rw [D.out]; exact ⟨hok'.out.e, hok'.out.pc, ((Kc.refl _ _).drewN k1).trans hok'.out.kc⟩
    · have he' := hq.e
      subst he'
      refine ⟨rfl, .inr ?_⟩
      rw [D.out]
      exact ⟨hb1, q, hq.trans ((Kb.refl _ _).drewN k1)⟩
  · have t1 : ((bt s x.a : Int) == 34) = false := by simp; omega
    by_cases h91 : bt s x.a = 91
    · have t2 : ((bt s x.a : Int) == 91) = true := by simp; omega
      have hl := bt_lt' s x.a 91 h91 (by decide)
      have D1 : Hid (6 ≤ nest → rval s (d + 1) nest x = (⟨x.a, 5, x.a⟩, V0)) := fun h6 => by
        rw [R.out, if_neg (by omega), if_pos ⟨.inl h91, h6⟩]
      have D2 : Hid (nest < 6 → rval s (d + 1) nest x = rlist s (rval s d (nest + 1)) x) := fun h6 => by
        rw [R.out, if_neg (by omega), if_neg (by omega), if_neg h34, if_pos h91]
      have H91 : Hid (bt s x.a = 91) := h91
      clear h34 R h91
      go_enter Tryz.func122, Tryz.ntmps122
      go_wp2_with fail
      refine (peek_any b s x.a _ hs ha h'.out).mono ?_
      rintro e w1 ⟨rfl, k1, rfl⟩
      go_wp2_with fail
      refine (checkNest_any b s x.a nest _ hn (h'.out.drewN k1)).mono ?_
      rintro e w2 (⟨h6, rfl, hw2⟩ | ⟨h6, q, hq⟩)
      · rw [hw2]
        clear hw2
        go_wp2_with fail
        refine (readList_any d (nest + 1) b s x m (w.drewN k1) hs HE.out H91.out (by omega) hG (HV.out h6) Hm.out (h'.out.drewN k1)).mono ?_
        rintro e w3 (⟨lv, rfl, hpv, hok⟩ | ⟨hb1, q, hq⟩)
        · have hpv' : Hid (PVal (d + 1) w.heap.size w3.heap.size w3 (.iface 208 lv) (rlist s (rval s d (nest + 1)) x).2) := hpv
          have hok' : Hid (POk s b (w.drewN k1) w3 (rlist s (rval s d (nest + 1)) x).1) := hok
          clear hpv hok
          have DD : Hid _ := D2.out h6
          go_wp2_with fail
          go_ret
          refine .inl ⟨_, rfl, ?_, ?_⟩
          · rw [DD.out]; exact hpv'.out
          · rw [DD.out]; exact ⟨hok'.out.e, hok'.out.pc, ((Kc.refl _ _).drewN k1).trans hok'.out.kc⟩
        · have he' := hq.e
          subst he'
          refine ⟨rfl, .inr ?_⟩
          rw [D2.out h6]
          exact ⟨hb1, q, hq.trans ((Kb.refl _ _).drewN k1)⟩
      · have he' := hq.e
        subst he'
        refine ⟨rfl, .inr ?_⟩
        rw [D1.out h6]
        exact ⟨by simp, q, hq.trans ((Kb.refl _ _).drewN k1)⟩
    · have t2 : ((bt s x.a : Int) == 91) = false := by simp; omega
      by_cases h123 : bt s x.a = 123
      · have t3 : ((bt s x.a : Int) == 123) = true := by simp; omega
        have hl := bt_lt' s x.a 123 h123 (by decide)
        have D1 : Hid (6 ≤ nest → rval s (d + 1) nest x = (⟨x.a, 5, x.a⟩, V0)) := fun h6 => by
          rw [R.out, if_neg (by omega), if_pos ⟨.inr h123, h6⟩]
        have D2 : Hid (nest < 6 → rval s (d + 1) nest x = rgroup s (rval s d (nest + 1)) x) := fun h6 => by
          rw [R.out, if_neg (by omega), if_neg (by omega), if_neg h34, if_neg h91, if_pos h123]
        have H123 : Hid (bt s x.a = 123) := h123
        clear h34 R h91 h123
        go_enter Tryz.func122, Tryz.ntmps122
        go_wp2_with fail
        refine (peek_any b s x.a _ hs ha h'.out).mono ?_
        rintro e w1 ⟨rfl, k1, rfl⟩
        go_wp2_with fail
        refine (checkNest_any b s x.a nest _ hn (h'.out.drewN k1)).mono ?_
        rintro e w2 (⟨h6, rfl, hw2⟩ | ⟨h6, q, hq⟩)
        · rw [hw2]
          clear hw2
          go_wp2_with fail
          refine (readGroup_any d (nest + 1) b s (rval s d (nest + 1)) x m (w.drewN k1) hs HE.out H123.out (by omega) hG (stk_val s d (nest + 1)) (gd_val d (nest + 1)) (HV.out h6) Hm.out (h'.out.drewN k1)).mono ?_
          rintro e w3 (⟨lv, rfl, hpv, hok⟩ | ⟨hb1, q, hq⟩)
          · have hpv' : Hid (PVal (d + 1) w.heap.size w3.heap.size w3 (.iface 223 lv) (rgroup s (rval s d (nest + 1)) x).2) := hpv
            have hok' : Hid (POk s b (w.drewN k1) w3 (rgroup s (rval s d (nest + 1)) x).1) := hok
            clear hpv hok
            have DD : Hid _ := D2.out h6
            go_wp2_with fail
            go_ret
            refine .inl ⟨_, rfl, ?_, ?_⟩
            · rw [DD.out]; exact hpv'.out
            · rw [DD.out]; exact ⟨hok'.out.e, hok'.out.pc, ((Kc.refl _ _).drewN k1).trans hok'.out.kc⟩
          · have he' := hq.e
            subst he'
            refine ⟨rfl, .inr ?_⟩
            rw [D2.out h6]
            exact ⟨hb1, q, hq.trans ((Kb.refl _ _).drewN k1)⟩
        · have he' := hq.e
          subst he'
          refine ⟨rfl, .inr ?_⟩
          rw [D1.out h6]
          exact ⟨by simp, q, hq.trans ((Kb.refl _ _).drewN k1)⟩
      · have t3 : ((bt s x.a : Int) == 123) = false := by simp; omega
        have D1 : Hid ((rval s (d + 1) nest x).1 = (rword s x).1 ∧ (x.a < s.size → rval s (d + 1) nest x = rword s x)) := by
          have e1 : ¬ ((bt s x.a = 91 ∨ bt s x.a = 123) ∧ 6 ≤ nest) := by omega
          refine ⟨?_, fun hl => by rw [R.out, if_neg (by omega), if_neg e1, if_neg h34, if_neg h91, if_neg h123]⟩
          by_cases hl : s.size ≤ x.a
          · rw [R.out, if_pos hl, rword_end s x HE.out hl]
          · rw [R.out, if_neg hl, if_neg e1, if_neg h34, if_neg h91, if_neg h123]
        clear h34 R h91 h123
        go_enter Tryz.func122, Tryz.ntmps122
        go_wp2_with fail
        refine (peek_any b s x.a _ hs ha h'.out).mono ?_
        rintro e w1 ⟨rfl, k1, rfl⟩
        go_wp2_with fail
        refine (readWord_any b s x (w.drewN k1) m hs HE.out ha hG Hm.out (h'.out.drewN k1)).mono ?_
        rintro e w2 (⟨v, rfl, hpv, hok⟩ | ⟨hb1, q, hq⟩)
        · have hl : x.a < s.size := by
            rcases Nat.lt_or_ge x.a s.size with hl | hl
            · exact hl
            · have := hok.e
              rw [rword_end s x HE.out hl] at this
              cases this
          obtain ⟨vt, vu, rfl⟩ := (hpv 0 0 0 w2).iface
          have hpv' : Hid (PLeaf (.iface vt vu) (rword s x).2) := hpv
          have hok' : Hid (POk s b (w.drewN k1) w2 (rword s x).1) := hok
          clear hpv hok
          have DD : Hid _ := D1.out.2 hl
          go_wp2_with fail
          go_ret
          refine .inl ⟨_, rfl, ?_, ?_⟩
          · rw [DD.out]; exact hpv'.out _ _ _ _
          · rw [DD.out]; exact ⟨hok'.out.e, hok'.out.pc, ((Kc.refl _ _).drewN k1).trans hok'.out.kc⟩
        · have he' := hq.e
          subst he'
          refine ⟨rfl, .inr ?_⟩
          rw [D1.out.1]
          exact ⟨hb1, q, hq.trans ((Kb.refl _ _).drewN k1)⟩

theorem pvalue_all (b : Nat) (s : ByteArray) (m : Int) (hs : s.size ≤ 4000) (hG : 1 < b) : ∀ k, k ≤ 6 → PValC (k + 1) (6 - k) b s m
  | 0, _ => readValue_step 0 6 b s m hs (Nat.le_refl _) hG (fun h => absurd h (by omega))
  | k + 1, hk => readValue_step (k + 1) (6 - (k + 1)) b s m hs (by omega) hG (fun _ => by
      have := pvalue_all b s m hs hG k (by omega)
      rw [show 6 - (k + 1) + 1 = 6 - k by omega]
      exact this)
theorem pvalue_any (b : Nat) (s : ByteArray) (m : Int) (hs : s.size ≤ 4000) (hG : 1 < b) : PValC 7 0 b s m := pvalue_all b s m hs hG 6 (Nat.le_refl _)
end Go.Proofs.YtdebjhdafnpfkaaGreatDoor

namespace Go.Proofs.YtdebjhdafnpfkaaGreatDoor
open Go.ChangeShapes Go.WideShapes Go.ChangeAt Go.RowKit
set_option linter.unusedVariables false
set_option linter.unusedSimpArgs false

theorem rest_head (p : ByteArray) (k : Nat) (r : ByteArray) (hr : r.data.toList = p.data.toList.drop k) (h : 0 < r.size) : (r[0].toNat = 46) ↔ (p.data.toList.drop k).head? = some 46 := by
  have hl : r.data.toList.length = r.size := Array.length_toList
  rw [← hr]
  obtain ⟨b, hb1, hb2⟩ := bt_list r 0 h
  rw [bt_in r 0 h, ← hb2]
  cases hd : r.data.toList with
  | nil => rw [hd] at hl; simp at hl; omega
  | cons c t =>
    rw [hd] at hb1
    simp only [List.getElem?_cons_zero, Option.some.injEq] at hb1
    subst hb1
    simp only [List.head?_cons, Option.some.injEq, ← UInt8.toNat_inj]
    rfl

theorem begins_any (p h : ByteArray) (w : World) (hp : p.size ≤ 9000) :
    Calls Tryz.prog 133 #[.string p, .string h] w fun e w' => e = .returned (.bool (bgB p h)) ∧ w' = w := by
  have B : Hid _ := bgl_pre p.data.toList h.data.toList
  cases hP : Lib.hasPrefix p.data.toList h.data.toList
  · have Fin : Hid (bgB p h = false) := by
      unfold Hid bgB
      rw [B.out]
      unfold Lib.hasPrefix at hP
      rw [hP, Bool.false_and]
    have HP : Hid _ := hP
    clear hP
    go_enter Tryz.func133, Tryz.ntmps133
    go_wp2_with fail
    refine (Tryz.strings_CutPrefix p h _).mono ?_
    rintro e w0 ⟨rfl, hw0⟩
    rw [hw0, HP.out]
    clear hw0
    go_wp2_with fail
    go_ret
    exact ⟨ret_bool' Fin.out.symm, rfl⟩
  · have hT : Hid (Lib.trimPrefix p.data.toList h.data.toList = p.data.toList.drop h.data.toList.length) := by
      unfold Hid Lib.trimPrefix
      rw [if_pos hP]
    have Fin : Hid (bgB p h = (decide (p.data.toList.drop h.data.toList.length = []) || decide ((p.data.toList.drop h.data.toList.length).head? = some 46))) := by
      unfold Hid bgB
      rw [B.out]
      unfold Lib.hasPrefix at hP
      rw [hP, Bool.true_and]
    have HP : Hid _ := hP
    clear hP
    go_enter Tryz.func133, Tryz.ntmps133
    go_wp2_with fail
    refine (Tryz.strings_CutPrefix p h _).mono ?_
    rintro e w0 ⟨rfl, hw0⟩
    rw [hw0, HP.out, hT.out]
    clear hw0
    have hr : Hid ((⟨(p.data.toList.drop h.data.toList.length).toArray⟩ : ByteArray).data.toList = p.data.toList.drop h.data.toList.length) := rfl
    have hE := mk_empty (p.data.toList.drop h.data.toList.length)
    generalize (⟨(p.data.toList.drop h.data.toList.length).toArray⟩ : ByteArray) = r at *
    have hl : r.data.toList.length = r.size := Array.length_toList
    have Hl : Hid _ := hl
    clear hl
    by_cases h0 : r.size = 0
    · have te : r.toList.isEmpty = true := by rw [toList_empty]; exact decide_eq_true h0
      have F2 : Hid (bgB p h = true) := by
        unfold Hid
        rw [hE] at te
        rw [Fin.out, te, Bool.true_or]
      clear hE h0
      go_wp2_with fail
      go_ret
      exact ⟨ret_bool' F2.out.symm, rfl⟩
    · have te : r.toList.isEmpty = false := by rw [toList_empty]; exact decide_eq_false h0
      have h1 : 0 < r.size := by omega
      have F2 : Hid (bgB p h = decide (r[0].toNat = 46)) := by
        unfold Hid
        rw [hE] at te
        rw [Fin.out, te, Bool.false_or, Bool.eq_iff_iff, decide_eq_true_eq, decide_eq_true_eq]
        exact (rest_head p _ r hr.out h1).symm
      clear hE h0
      go_wp2_with fail
      go_ret
      refine ⟨ret_bool' ?_, rfl⟩
      rw [F2.out, Bool.eq_iff_iff, decide_eq_true_eq]
      simp
      omega

/-- A row that hangs at a cell of block b was grown. -/
structure Ap (b c : Nat) (v : Value) (w w' : World) (v' : Value) : Prop where
  os : w'.os = w.os
  tape : w'.tape = w.tape
  output : w'.output = w.output
  size : w.heap.size ≤ w'.heap.size
  block : ∀ k, k < w.heap.size → k ≠ b → v.ownBlock ≠ some k → w'.heap[k]? = w.heap[k]?
  off : ∀ o, o ≠ c → w'.cell? ⟨b, o, none⟩ = w.cell? ⟨b, o, none⟩
  cell : w'.cell? ⟨b, c, none⟩ = some v'
  froz : ∀ o, w'.frozen? ⟨b, o, none⟩ = w.frozen? ⟨b, o, none⟩
  own : v'.ownBlock = v.ownBlock ∨ ∀ k, v'.ownBlock = some k → w.heap.size ≤ k

theorem ap_mk {b c : Nat} {v v' u : Value} {w w1 w2 : World} (hb : b < w.heap.size) (h0 : w.cell? ⟨b, c, none⟩ = some u) (hv : v.ownBlock ≠ some b) (h1 : Below w.heap.size w w1) (hg : w1.grownBy w2 v.ownBlock)
    (hat : v'.ownBlock = v.ownBlock ∨ v'.ownBlock = some w1.heap.size) : Ap b c v w (w2.setCell ⟨b, c, none⟩ v') v' := by
  have hz := h1.size
  have hz2 := hg.size
  have hbb : w2.heap[b]? = w.heap[b]? := (hg.block b (by omega) (fun e => hv e.symm)).trans (h1.block b hb)
  refine ⟨hg.os.trans h1.os, hg.tape.trans h1.tape, hg.output.trans h1.output, by simpa [World.setCell] using Nat.le_trans hz hz2, fun k hk hkb hkv => ?_, fun o ho => ?_, ?_, fun o => ?_, ?_⟩
  · rw [Below.heap_setCell _ _ _ _ (by simpa using hkb), hg.block k (by omega) (fun e => hkv e.symm)]
    exact h1.block k hk
  · rw [cell_set_off _ _ _ _ _ (fun e => ho e.symm)]
    exact World.cell?_of_block (w := w) hbb
  · exact cell_set_same _ _ _ _ _ ((World.cell?_of_block (w := w) hbb).trans h0)
  · rw [World.frozen?_setCell]
    exact World.frozen?_of_block (w := w) hbb
  · rcases hat with e | e
    · exact .inl e
    · refine .inr (fun k hk => ?_)
      rw [e] at hk
      cases hk
      exact hz

theorem prow_cell {w : World} {base : Nat} {e : TypeId} {ad : Option Addr} {n cap : Nat} {H : List ByteArray} (h : w.ownsRow base e 1 (.slice ad n cap) n (H.map .string)) (hn : H.length = n) (k : Nat) (p : ByteArray) (hk : H[k]? = some p) :
    ∃ g, ad = some ⟨g, 0, none⟩ ∧ w.cell? ⟨g, k, none⟩ = some (.string p) := by
  have hkl : k < H.length := (List.getElem?_eq_some_iff.1 hk).1
  rcases h.2 with ⟨_, h0⟩ | ⟨g, c, cur, hgv, hg1, hgg, _⟩
  · omega
  · simp only [Value.slice.injEq] at hgv
    obtain ⟨rfl, _, rfl⟩ := hgv
    refine ⟨g, rfl, ?_⟩
    rw [h.cellAt k (by omega), List.getElem?_map, hk]
    rfl
theorem any_take {α : Type} (f : α → Bool) (H : List α) (k : Nat) (p : α) (hk : H[k]? = some p) (h : (H.take k).any f = false) : (H.take (k + 1)).any f = f p := by
  rw [List.take_add_one, hk, List.any_append, h]
  simp
theorem any_mem {α : Type} (f : α → Bool) (H : List α) (k : Nat) (p : α) (hk : H[k]? = some p) (h : f p = true) : H.any f = true := by
  rw [List.any_eq_true]
  exact ⟨p, List.mem_of_getElem? hk, h⟩

theorem info_str : (Tryz.prog.info? 9).map (fun i => (i.zero, i.size, i.bytes)) = some (some (.string ⟨#[]⟩), 1, 16) := by kernel_rfl
/-- May the header be? -/
def hdrOk (H P : List ByteArray) (p : ByteArray) : Bool := !(H.any (fun h => decide (h = p))) && !(P.any (fun q => bgB p q))
set_option maxRecDepth 100000 in
set_option maxHeartbeats 4000000 in
theorem addHeader_any (b : Nat) (H P : List ByteArray) (hv pv : Value) (p : ByteArray) (w : World) (hb : b < w.heap.size) (hp : p.size ≤ 9000) (hH : H.length ≤ 4001) (hP : P.length ≤ 4001)
    (c4 : w.cell? ⟨b, 4, none⟩ = some hv) (c5 : w.cell? ⟨b, 5, none⟩ = some pv) (hF : ∀ o, w.frozen? ⟨b, o, none⟩ = false)
    (o4 : w.ownsRow (b + 1) 9 1 hv H.length (H.map .string)) (o5 : w.ownsRow (b + 1) 9 1 pv P.length (P.map .string)) :
    Calls Tryz.prog 121 #[.pointer (some ⟨b, 4, none⟩), .string p] w fun e w' => (hdrOk H P p = false ∧ e = .returned (.bool false) ∧ w' = w) ∨
      (hdrOk H P p = true ∧ e = .returned (.bool true) ∧ ∃ hv', Ap b 4 hv w w' hv' ∧ w'.ownsRow (b + 1) 9 1 hv' (H ++ [p]).length ((H ++ [p]).map .string)) := by
  obtain ⟨i0, hi, hz0, hz1, hz2⟩ := info_parts info_str
  obtain ⟨ad4, cap4, rfl⟩ := ownsS_form o4
  obtain ⟨ad5, cap5, rfl⟩ := ownsS_form o5
  have O4 : Hid (w.ownsRow (b + 1) 9 1 (.slice ad4 H.length cap4) H.length (H.map .string)) := o4
  have O5 : Hid (w.ownsRow (b + 1) 9 1 (.slice ad5 P.length cap5) P.length (P.map .string)) := o5
  have C4 : Hid _ := c4
  clear o4 o5
  go_enter Tryz.func121, Tryz.ntmps121
  go_wp2_with fail
  go_loop [14] (fun u14 => ∃ k : Nat, k ≤ H.length ∧ u14 = .int .i64 k ∧ Hid ((H.take k).any (fun h => decide (h = p)) = false)) (fun u14 => H.length - (intOf u14).toNat)
  case atStart => exact ⟨0, Nat.zero_le _, rfl, rfl⟩
  case round =>
    obtain ⟨k, hk, rfl, ht⟩ := hrel
    by_cases hlt : k < H.length
    · obtain ⟨h, hh⟩ : ∃ h, H[k]? = some h := ⟨_, List.getElem?_eq_getElem hlt⟩
      obtain ⟨g, rfl, hc⟩ := prow_cell O4.out rfl k h hh
      have Hh : Hid _ := hh
      clear hh
      by_cases heq : h = p
      · have ts : (h.toList == p.toList) = true := by rw [toList_beq]; exact decide_eq_true heq
        have Fin : Hid (hdrOk H P p = false) := by
          unfold Hid hdrOk
          rw [any_mem (fun h => decide (h = p)) H k h Hh.out (by simpa using heq)]
          rfl
        clear heq
        go_wp2_with fail
        go_ret
        exact .inl ⟨Fin.out, rfl, rfl⟩
      · have ts : (h.toList == p.toList) = false := by rw [toList_beq]; exact decide_eq_false heq
        have Fin : Hid ((H.take (k + 1)).any (fun h => decide (h = p)) = false) := by
          unfold Hid
          rw [any_take (fun h => decide (h = p)) H k h Hh.out ht.out]
          exact decide_eq_false heq
        clear heq
        go_wp2_with fail
        go_round
        case rel => exact ⟨k + 1, by omega, by go_num, Fin⟩
        case measure => simp [intOf]; omega
    · have F1 : Hid (H.any (fun h => decide (h = p)) = false) := by
        have := ht.out
        rw [List.take_of_length_le (by omega)] at this
        exact this
      clear ht
      go_wp2_with fail
      go_loop [27] (fun u27 => ∃ j : Nat, j ≤ P.length ∧ u27 = .int .i64 j ∧ Hid ((P.take j).any (fun q => bgB p q) = false)) (fun u27 => P.length - (intOf u27).toNat)
      case atStart => exact ⟨0, Nat.zero_le _, rfl, rfl⟩
      case round =>
        obtain ⟨j, hj, rfl, ht⟩ := hrel
        by_cases hlt2 : j < P.length
        · obtain ⟨q, hq⟩ : ∃ q, P[j]? = some q := ⟨_, List.getElem?_eq_getElem hlt2⟩
          obtain ⟨g, rfl, hc⟩ := prow_cell O5.out rfl j q hq
          have Hq : Hid _ := hq
          clear hq
          cases hbg : bgB p q
          · have Fin : Hid ((P.take (j + 1)).any (fun q => bgB p q) = false) := by
              unfold Hid
              rw [any_take (fun q => bgB p q) P j q Hq.out ht.out]
              exact hbg
            go_wp2_with fail
            refine (begins_any p q _ hp).mono ?_
            rintro e w0 ⟨rfl, hw0⟩
            rw [hw0, hbg]
            clear hw0
            go_wp2_with fail
            go_round
            case rel => exact ⟨j + 1, by omega, by go_num, Fin⟩
            case measure => simp [intOf]; omega
          · have Fin : Hid (hdrOk H P p = false) := by
              unfold Hid hdrOk
              rw [any_mem (fun q => bgB p q) P j q Hq.out hbg, Bool.not_true, Bool.and_false]
            go_wp2_with fail
            refine (begins_any p q _ hp).mono ?_
            rintro e w0 ⟨rfl, hw0⟩
            rw [hw0, hbg]
            clear hw0
            go_wp2_with fail
            go_ret
            exact .inl ⟨Fin.out, rfl, rfl⟩
        · have F2 : Hid (hdrOk H P p = true) := by
            have := ht.out
            rw [List.take_of_length_le (by omega)] at this
            unfold Hid hdrOk
            rw [F1.out, this]
            rfl
          clear ht F1
          go_wp2_with (at_builtin; refine wpList_append_own_at _ rfl (.tmp 39) (.tmp 41) 38 rfl (b + 1) 9 i0 (.string ⟨#[]⟩) 1 16 Tryz.underlying38 hi hz0 hz1 hz2 rfl (by decide) _ _ _ rfl (O4.out.alloc _) ⟨w.heap.size, 0, none⟩ 1 1 [.string p] rfl rfl (cell_one_new _ _ _) (by intro u hu; simp at hu; subst hu; rfl) (by unfold maxLen; omega) (by omega) (by simp; omega) ?_; intro v1 w2 hown2 hgrow2 hnil2 hat2; refine Hid.out ?_)
          have hne : (Value.slice ad4 H.length cap4).ownBlock ≠ some b := fun e => (ownsS_ne O4.out (Nat.lt_succ_self b)) e.symm
          have HA : Hid (Ap b 4 (.slice ad4 H.length cap4) w (w2.setCell ⟨b, 4, none⟩ v1) v1) := ap_mk hb C4.out hne ((Below.refl _ _).alloc (Nat.le_refl _) _) hgrow2 hat2
          have HO : Hid ((w2.setCell ⟨b, 4, none⟩ v1).ownsRow (b + 1) 9 1 v1 (H ++ [p]).length ((H ++ [p]).map .string)) := by
            unfold Hid
            refine ownsS_frame (w := w2) (by simpa using hown2) (fun k k1 _ _ => Below.heap_setCell _ _ _ _ (by simp only; omega))
          have hbb : w2.heap[b]? = w.heap[b]? := (hgrow2.block b (by simp; omega) (fun e => hne e.symm)).trans (Below.heap_alloc _ _ _ hb)
          have c4' : w2.cell? ⟨b, 4, none⟩ = some (.slice ad4 H.length cap4) := (World.cell?_of_block (w := w) hbb).trans C4.out
          have hF' : ∀ o, w2.frozen? ⟨b, o, none⟩ = false := fun o => (World.frozen?_of_block (w := w) hbb).trans (hF o)
          obtain ⟨ad2, cap2, hv2⟩ := ownsS_form hown2
          subst hv2
          clear hown2 hgrow2 hnil2 hat2 hbb
          unfold Hid
          go_wp2_with fail
          go_ret
          exact .inr ⟨F2.out, rfl, _, HA.out, HO.out⟩
end Go.Proofs.YtdebjhdafnpfkaaGreatDoor

namespace Go.Proofs.YtdebjhdafnpfkaaGreatDoor
open Go.ChangeShapes Go.WideShapes Go.ChangeAt Go.RowKit
set_option linter.unusedVariables false
set_option linter.unusedSimpArgs false

/-- May the pair be? -/
def pairOk (H P : List ByteArray) (p : ByteArray) : Bool := !(P.any (fun q => bgB p q || bgB q p)) && !(H.any (fun h => bgB h p))
set_option maxRecDepth 100000 in
set_option maxHeartbeats 4000000 in
theorem addPair_any (b : Nat) (H P : List ByteArray) (hv pv : Value) (p : ByteArray) (w : World) (hb : b < w.heap.size) (hp : p.size ≤ 9000) (hH : H.length ≤ 4001) (hP : P.length ≤ 4001)
    (hHs : ∀ h ∈ H, h.size ≤ 9000) (hPs : ∀ q ∈ P, q.size ≤ 9000)
    (c4 : w.cell? ⟨b, 4, none⟩ = some hv) (c5 : w.cell? ⟨b, 5, none⟩ = some pv) (hF : ∀ o, w.frozen? ⟨b, o, none⟩ = false)
    (o4 : w.ownsRow (b + 1) 9 1 hv H.length (H.map .string)) (o5 : w.ownsRow (b + 1) 9 1 pv P.length (P.map .string)) :
    Calls Tryz.prog 123 #[.pointer (some ⟨b, 4, none⟩), .string p] w fun e w' => (pairOk H P p = false ∧ e = .returned (.bool false) ∧ w' = w) ∨
      (pairOk H P p = true ∧ e = .returned (.bool true) ∧ ∃ pv', Ap b 5 pv w w' pv' ∧ w'.ownsRow (b + 1) 9 1 pv' (P ++ [p]).length ((P ++ [p]).map .string)) := by
  obtain ⟨i0, hi, hz0, hz1, hz2⟩ := info_parts info_str
  obtain ⟨ad4, cap4, rfl⟩ := ownsS_form o4
  obtain ⟨ad5, cap5, rfl⟩ := ownsS_form o5
  have O4 : Hid (w.ownsRow (b + 1) 9 1 (.slice ad4 H.length cap4) H.length (H.map .string)) := o4
  have O5 : Hid (w.ownsRow (b + 1) 9 1 (.slice ad5 P.length cap5) P.length (P.map .string)) := o5
  have C5 : Hid _ := c5
  have HHs : Hid (∀ h ∈ H, h.size ≤ 9000) := hHs
  have HPs : Hid (∀ q ∈ P, q.size ≤ 9000) := hPs
  clear o4 o5 hHs hPs
  go_enter Tryz.func123, Tryz.ntmps123
  go_wp2_with fail
  go_loop [14] (fun u14 => ∃ k : Nat, k ≤ P.length ∧ u14 = .int .i64 k ∧ Hid ((P.take k).any (fun q => bgB p q || bgB q p) = false)) (fun u14 => P.length - (intOf u14).toNat)
  case atStart => exact ⟨0, Nat.zero_le _, rfl, rfl⟩
  case round =>
    obtain ⟨k, hk, rfl, ht⟩ := hrel
    by_cases hlt : k < P.length
    · obtain ⟨q, hq⟩ : ∃ q, P[k]? = some q := ⟨_, List.getElem?_eq_getElem hlt⟩
      obtain ⟨g, rfl, hc⟩ := prow_cell O5.out rfl k q hq
      have Hq : Hid _ := hq
      have hqs := HPs.out q (List.mem_of_getElem? hq)
      clear hq
      cases hb1 : bgB p q
      · cases hb2 : bgB q p
        · have Fin : Hid ((P.take (k + 1)).any (fun q => bgB p q || bgB q p) = false) := by
            unfold Hid
            rw [any_take (fun q => bgB p q || bgB q p) P k q Hq.out ht.out, hb1, hb2]
            rfl
          go_wp2_with fail
          refine (begins_any p q _ hp).mono ?_
          rintro e w0 ⟨rfl, hw0⟩
          rw [hw0, hb1]
          clear hw0
          go_wp2_with fail
          refine (begins_any q p _ hqs).mono ?_
          rintro e w0 ⟨rfl, hw0⟩
          rw [hw0, hb2]
          clear hw0
          go_wp2_with fail
          go_round
          case rel => exact ⟨k + 1, by omega, by go_num, Fin⟩
          case measure => simp [intOf]; omega
        · have Fin : Hid (pairOk H P p = false) := by
            unfold Hid pairOk
            rw [any_mem (fun q => bgB p q || bgB q p) P k q Hq.out (by rw [hb2, Bool.or_true])]
            rfl
          go_wp2_with fail
          refine (begins_any p q _ hp).mono ?_
          rintro e w0 ⟨rfl, hw0⟩
          rw [hw0, hb1]
          clear hw0
          go_wp2_with fail
          refine (begins_any q p _ hqs).mono ?_
          rintro e w0 ⟨rfl, hw0⟩
          rw [hw0, hb2]
          clear hw0
          go_wp2_with fail
          go_ret
          exact .inl ⟨Fin.out, rfl, rfl⟩
      · have Fin : Hid (pairOk H P p = false) := by
          unfold Hid pairOk
          rw [any_mem (fun q => bgB p q || bgB q p) P k q Hq.out (by rw [hb1, Bool.true_or])]
          rfl
        go_wp2_with fail
        refine (begins_any p q _ hp).mono ?_
        rintro e w0 ⟨rfl, hw0⟩
        rw [hw0, hb1]
        clear hw0
        go_wp2_with fail
        go_ret
        exact .inl ⟨Fin.out, rfl, rfl⟩
    · have F1 : Hid (P.any (fun q => bgB p q || bgB q p) = false) := by
        have := ht.out
        rw [List.take_of_length_le (by omega)] at this
        exact this
      clear ht
      go_wp2_with fail
      go_loop [32] (fun u32 => ∃ j : Nat, j ≤ H.length ∧ u32 = .int .i64 j ∧ Hid ((H.take j).any (fun h => bgB h p) = false)) (fun u32 => H.length - (intOf u32).toNat)
      case atStart => exact ⟨0, Nat.zero_le _, rfl, rfl⟩
      case round =>
        obtain ⟨j, hj, rfl, ht⟩ := hrel
        by_cases hlt2 : j < H.length
        · obtain ⟨q, hq⟩ : ∃ q, H[j]? = some q := ⟨_, List.getElem?_eq_getElem hlt2⟩
          obtain ⟨g, rfl, hc⟩ := prow_cell O4.out rfl j q hq
          have Hq : Hid _ := hq
          have hqs := HHs.out q (List.mem_of_getElem? hq)
          clear hq
          cases hbg : bgB q p
          · have Fin : Hid ((H.take (j + 1)).any (fun h => bgB h p) = false) := by
              unfold Hid
              rw [any_take (fun h => bgB h p) H j q Hq.out ht.out]
              exact hbg
            go_wp2_with fail
            refine (begins_any q p _ hqs).mono ?_
            rintro e w0 ⟨rfl, hw0⟩
            rw [hw0, hbg]
            clear hw0
            go_wp2_with fail
            go_round
            case rel => exact ⟨j + 1, by omega, by go_num, Fin⟩
            case measure => simp [intOf]; omega
          · have Fin : Hid (pairOk H P p = false) := by
              unfold Hid pairOk
              rw [any_mem (fun h => bgB h p) H j q Hq.out hbg, Bool.not_true, Bool.and_false]
            go_wp2_with fail
            refine (begins_any q p _ hqs).mono ?_
            rintro e w0 ⟨rfl, hw0⟩
            rw [hw0, hbg]
            clear hw0
            go_wp2_with fail
            go_ret
            exact .inl ⟨Fin.out, rfl, rfl⟩
        · have F2 : Hid (pairOk H P p = true) := by
            have := ht.out
            rw [List.take_of_length_le (by omega)] at this
            unfold Hid pairOk
            rw [F1.out, this]
            rfl
          clear ht F1
          go_wp2_with (at_builtin; refine wpList_append_own_at _ rfl (.tmp 44) (.tmp 46) 38 rfl (b + 1) 9 i0 (.string ⟨#[]⟩) 1 16 Tryz.underlying38 hi hz0 hz1 hz2 rfl (by decide) _ _ _ rfl (O5.out.alloc _) ⟨w.heap.size, 0, none⟩ 1 1 [.string p] rfl rfl (cell_one_new _ _ _) (by intro u hu; simp at hu; subst hu; rfl) (by unfold maxLen; omega) (by omega) (by simp; omega) ?_; intro v1 w2 hown2 hgrow2 hnil2 hat2; refine Hid.out ?_)
          have hne : (Value.slice ad5 P.length cap5).ownBlock ≠ some b := fun e => (ownsS_ne O5.out (Nat.lt_succ_self b)) e.symm
          have HA : Hid (Ap b 5 (.slice ad5 P.length cap5) w (w2.setCell ⟨b, 5, none⟩ v1) v1) := ap_mk hb C5.out hne ((Below.refl _ _).alloc (Nat.le_refl _) _) hgrow2 hat2
          have HO : Hid ((w2.setCell ⟨b, 5, none⟩ v1).ownsRow (b + 1) 9 1 v1 (P ++ [p]).length ((P ++ [p]).map .string)) := by
            unfold Hid
            refine ownsS_frame (w := w2) (by simpa using hown2) (fun k k1 _ _ => Below.heap_setCell _ _ _ _ (by simp only; omega))
          have hbb : w2.heap[b]? = w.heap[b]? := (hgrow2.block b (by simp; omega) (fun e => hne e.symm)).trans (Below.heap_alloc _ _ _ hb)
          have c5' : w2.cell? ⟨b, 5, none⟩ = some (.slice ad5 P.length cap5) := (World.cell?_of_block (w := w) hbb).trans C5.out
          have hF' : ∀ o, w2.frozen? ⟨b, o, none⟩ = false := fun o => (World.frozen?_of_block (w := w) hbb).trans (hF o)
          obtain ⟨ad2, cap2, hv2⟩ := ownsS_form hown2
          subst hv2
          clear hown2 hgrow2 hnil2 hat2 hbb
          unfold Hid
          go_wp2_with fail
          go_ret
          exact .inr ⟨F2.out, rfl, _, HA.out, HO.out⟩
end Go.Proofs.YtdebjhdafnpfkaaGreatDoor

namespace Go.Proofs.YtdebjhdafnpfkaaGreatDoor
open Go.ChangeShapes Go.WideShapes Go.ChangeAt Go.RowKit
set_option linter.unusedVariables false
set_option linter.unusedSimpArgs false

/-- A remark as the program keeps it: without its sign. -/
def rmk (r : ByteArray) : ByteArray := r.extract 1 r.size

/-- A line's entry, among some blocks. -/
def PEnt (S : Nat → Prop) (w : World) (v : Value) (t : It) : Prop :=
  ∃ q, S q ∧ w.cell? ⟨q, 0, none⟩ = some (.string (rmk t.rem)) ∧ w.cell? ⟨q, 1, none⟩ = some (.bool (decide (t.rem.size ≠ 0))) ∧ (∀ o, w.frozen? ⟨q, o, none⟩ = false) ∧
    ((t.k = 91 ∧ v = .iface 177 (ptr q) ∧ w.cell? ⟨q, 2, none⟩ = some (.string (jn t.path))) ∨
     (t.k = 61 ∧ v = .iface 94 (ptr q) ∧ w.cell? ⟨q, 2, none⟩ = some (.string (jn t.path)) ∧ w.cell? ⟨q, 3, none⟩ = some (.string (jn t.full)) ∧
       ∃ pv lo hi, w.cell? ⟨q, 4, none⟩ = some pv ∧ (∀ k, lo ≤ k → k < hi → S k ∧ k ≠ q) ∧ PVal 7 lo hi w pv t.v) ∨
     ((t.k = 32 ∨ t.k = 35) ∧ v = .iface 173 (ptr q)))
theorem PEnt.frame {S : Nat → Prop} {w w' : World} {v : Value} {t : It} (h : PEnt S w v t) (hb : ∀ k, S k → w'.heap[k]? = w.heap[k]?) : PEnt S w' v t := by
  obtain ⟨q, h1, h3, h4, h5, h6⟩ := h
  have hq := hb q h1
  refine ⟨q, h1, (World.cell?_of_block (w := w) hq).trans h3, (World.cell?_of_block (w := w) hq).trans h4, fun o => (World.frozen?_of_block (w := w) hq).trans (h5 o), ?_⟩
  rcases h6 with ⟨a, b, c⟩ | ⟨a, b, c, d, pv, lo, hi, e, hs, f⟩ | h6
  · exact .inl ⟨a, b, (World.cell?_of_block (w := w) hq).trans c⟩
  · exact .inr (.inl ⟨a, b, (World.cell?_of_block (w := w) hq).trans c, (World.cell?_of_block (w := w) hq).trans d, pv, lo, hi, (World.cell?_of_block (w := w) hq).trans e, hs, f.frame (fun k k1 k2 => hb k (hs k k1 k2).1)⟩)
  · exact .inr (.inr h6)
/-- The blocks are new, and none of the rows. -/
def Away (n : Nat) (b : Nat) (hv pv ev : Value) (S : Nat → Prop) : Prop := ∀ k, S k → b < k ∧ k < n ∧ hv.ownBlock ≠ some k ∧ pv.ownBlock ≠ some k ∧ ev.ownBlock ≠ some k

/-- What the program's reader holds besides its place. -/
structure PT (w : World) (b nb : Nat) (tab : ByteArray) (hv pv ev : Value) (H P : List ByteArray) (es : List Value) (items : List It) : Prop where
  bnd : nb ≤ w.heap.size
  c3 : w.cell? ⟨b, 3, none⟩ = some (.string tab)
  c4 : w.cell? ⟨b, 4, none⟩ = some hv
  c5 : w.cell? ⟨b, 5, none⟩ = some pv
  c6 : w.cell? ⟨b, 6, none⟩ = some ev
  o4 : w.ownsRow (b + 1) 9 1 hv H.length (H.map .string)
  o5 : w.ownsRow (b + 1) 9 1 pv P.length (P.map .string)
  o6 : w.ownsRow (b + 1) 147 1 ev es.length es
  a45 : ∀ k, hv.ownBlock = some k → pv.ownBlock ≠ some k
  a46 : ∀ k, hv.ownBlock = some k → ev.ownBlock ≠ some k
  a56 : ∀ k, pv.ownBlock = some k → ev.ownBlock ≠ some k
  len : es.length = items.length
  ents : ∀ (i : Nat) (v : Value) (t : It), es[i]? = some v → items[i]? = some t → ∃ S, Away nb b hv pv ev S ∧ PEnt S w v t
theorem PT.frame {w w' : World} {b nb : Nat} {tab : ByteArray} {hv pv ev : Value} {H P : List ByteArray} {es : List Value} {items : List It} (h : PT w b nb tab hv pv ev H P es items)
    (hc : ∀ o, 3 ≤ o → w'.cell? ⟨b, o, none⟩ = w.cell? ⟨b, o, none⟩) (hz : w.heap.size ≤ w'.heap.size) (hb : ∀ k, b < k → k < w.heap.size → w'.heap[k]? = w.heap[k]?) : PT w' b nb tab hv pv ev H P es items := by
  have hbn := h.bnd
  refine ⟨Nat.le_trans h.bnd hz, (hc 3 (by omega)).trans h.c3, (hc 4 (by omega)).trans h.c4, (hc 5 (by omega)).trans h.c5, (hc 6 (by omega)).trans h.c6, ?_, ?_, ?_, h.a45, h.a46, h.a56, h.len, fun i v t hi ht => ?_⟩
  · exact ownsS_frame h.o4 (fun k h1 h2 _ => hb k (by omega) h2)
  · exact ownsS_frame h.o5 (fun k h1 h2 _ => hb k (by omega) h2)
  · exact ownsS_frame h.o6 (fun k h1 h2 _ => hb k (by omega) h2)
  · obtain ⟨S, a1, a4⟩ := h.ents i v t hi ht
    exact ⟨S, a1, a4.frame (fun k k1 => hb k (a1 k k1).1 (Nat.lt_of_lt_of_le (a1 k k1).2.1 hbn))⟩
theorem PT.kc {w w' : World} {b nb : Nat} {tab : ByteArray} {hv pv ev : Value} {H P : List ByteArray} {es : List Value} {items : List It} (h : PT w b nb tab hv pv ev H P es items) (k : Kc b w w') : PT w' b nb tab hv pv ev H P es items :=
  h.frame (fun o ho => k.off o (by omega) (by omega)) k.kb.size (fun i h1 h2 => k.kb.block i h2 (by omega))
theorem PT.alloc {w : World} {b nb : Nat} {tab : ByteArray} {hv pv ev : Value} {H P : List ByteArray} {es : List Value} {items : List It} (h : PT w b nb tab hv pv ev H P es items) (hb : b < w.heap.size) (o : Obj) : PT (w.alloc o) b nb tab hv pv ev H P es items :=
  h.kc ((Kc.refl b w).alloc hb o)
theorem PT.tab {w : World} {b nb : Nat} {tab : ByteArray} {hv pv ev : Value} {H P : List ByteArray} {es : List Value} {items : List It} (h : PT w b nb tab hv pv ev H P es items) (t2 : ByteArray) : PT (w.setCell ⟨b, 3, none⟩ (.string t2)) b nb t2 hv pv ev H P es items := by
  have hb : ∀ k, b < k → (w.setCell ⟨b, 3, none⟩ (.string t2)).heap[k]? = w.heap[k]? := fun k hk => Below.heap_setCell _ _ _ _ (by simp only; omega)
  refine ⟨by simpa [World.setCell] using h.bnd, cell_set_same _ _ _ _ _ h.c3, (cell_set_off _ _ _ _ _ (by omega)).trans h.c4, (cell_set_off _ _ _ _ _ (by omega)).trans h.c5, (cell_set_off _ _ _ _ _ (by omega)).trans h.c6, ?_, ?_, ?_, h.a45, h.a46, h.a56, h.len, fun i v t hi ht => ?_⟩
  · exact ownsS_frame h.o4 (fun k h1 _ _ => hb k (by omega))
  · exact ownsS_frame h.o5 (fun k h1 _ _ => hb k (by omega))
  · exact ownsS_frame h.o6 (fun k h1 _ _ => hb k (by omega))
  · obtain ⟨S, a1, a4⟩ := h.ents i v t hi ht
    exact ⟨S, a1, a4.frame (fun k k1 => hb k (a1 k k1).1)⟩
theorem own_new {b c : Nat} {v v' : Value} {w w' : World} (h : Ap b c v w w' v') {k : Nat} (hk : k < w.heap.size) (hv : v.ownBlock ≠ some k) : v'.ownBlock ≠ some k := by
  intro e
  rcases h.own with q | q
  · exact hv (q ▸ e)
  · have := q k e
    omega
theorem ap_apart {b c : Nat} {v v' u : Value} {w w' : World} {base : Nat} {e : TypeId} {n : Nat} {xs : List Value} (h : Ap b c v w w' v') (ha : ∀ k, v.ownBlock = some k → u.ownBlock ≠ some k) (ho : w.ownsRow base e 1 u n xs) : ∀ k, v'.ownBlock = some k → u.ownBlock ≠ some k := by
  intro k hk hu
  rcases h.own with q | q
  · exact ha k (q ▸ hk) hu
  · have := q k hk
    have := (ho.lt k hu).2
    omega
/-- A header was taken. -/
theorem PT.hdr {w w' : World} {b nb : Nat} {tab : ByteArray} {hv pv ev hv' : Value} {H P : List ByteArray} {es : List Value} {items : List It} (h : PT w b nb tab hv pv ev H P es items) (p : ByteArray) (ha : Ap b 4 hv w w' hv')
    (ho : w'.ownsRow (b + 1) 9 1 hv' (H ++ [p]).length ((H ++ [p]).map .string)) : PT w' b nb tab hv' pv ev (H ++ [p]) P es items := by
  have hbn := h.bnd
  refine ⟨Nat.le_trans h.bnd ha.size, (ha.off 3 (by decide)).trans h.c3, ha.cell, (ha.off 5 (by decide)).trans h.c5, (ha.off 6 (by decide)).trans h.c6, ho, ?_, ?_, ap_apart ha h.a45 h.o5, ap_apart ha h.a46 h.o6, h.a56, h.len, fun i v t hi ht => ?_⟩
  · exact ownsS_frame h.o5 (fun k h1 h2 h3 => ha.block k h2 (by omega) (fun e => h.a45 k e h3))
  · exact ownsS_frame h.o6 (fun k h1 h2 h3 => ha.block k h2 (by omega) (fun e => h.a46 k e h3))
  · obtain ⟨S, a1, a4⟩ := h.ents i v t hi ht
    refine ⟨S, fun k hk => ?_, a4.frame (fun k k1 => ha.block k (Nat.lt_of_lt_of_le (a1 k k1).2.1 hbn) (by have := (a1 k k1).1; omega) (a1 k k1).2.2.1)⟩
    obtain ⟨q1, q2, q3, q4, q5⟩ := a1 k hk
    exact ⟨q1, q2, own_new ha (Nat.lt_of_lt_of_le q2 hbn) q3, q4, q5⟩
/-- A pair was taken. -/
theorem PT.pair {w w' : World} {b nb : Nat} {tab : ByteArray} {hv pv ev pv' : Value} {H P : List ByteArray} {es : List Value} {items : List It} (h : PT w b nb tab hv pv ev H P es items) (p : ByteArray) (ha : Ap b 5 pv w w' pv')
    (ho : w'.ownsRow (b + 1) 9 1 pv' (P ++ [p]).length ((P ++ [p]).map .string)) : PT w' b nb tab hv pv' ev H (P ++ [p]) es items := by
  have hbn := h.bnd
  refine ⟨Nat.le_trans h.bnd ha.size, (ha.off 3 (by decide)).trans h.c3, (ha.off 4 (by decide)).trans h.c4, ha.cell, (ha.off 6 (by decide)).trans h.c6, ?_, ho, ?_, fun k h1 h2 => ap_apart ha (fun k q1 q2 => h.a45 k q2 q1) h.o4 k h2 h1, h.a46, ap_apart ha h.a56 h.o6, h.len, fun i v t hi ht => ?_⟩
  · exact ownsS_frame h.o4 (fun k h1 h2 h3 => ha.block k h2 (by omega) (fun e => h.a45 k h3 e))
  · exact ownsS_frame h.o6 (fun k h1 h2 h3 => ha.block k h2 (by omega) (fun e => h.a56 k e h3))
  · obtain ⟨S, a1, a4⟩ := h.ents i v t hi ht
    refine ⟨S, fun k hk => ?_, a4.frame (fun k k1 => ha.block k (Nat.lt_of_lt_of_le (a1 k k1).2.1 hbn) (by have := (a1 k k1).1; omega) (a1 k k1).2.2.2.1)⟩
    obtain ⟨q1, q2, q3, q4, q5⟩ := a1 k hk
    exact ⟨q1, q2, q3, own_new ha (Nat.lt_of_lt_of_le q2 hbn) q4, q5⟩
/-- A line more. -/
theorem PT.entry {w w' : World} {b nb : Nat} {tab : ByteArray} {hv pv ev ev' : Value} {H P : List ByteArray} {es : List Value} {items : List It} (h : PT w b nb tab hv pv ev H P es items) (v : Value) (t : It) (ha : Ap b 6 ev w w' ev')
    (ho : w'.ownsRow (b + 1) 147 1 ev' (es ++ [v]).length (es ++ [v])) {S : Nat → Prop} (h1 : Away w.heap.size b hv pv ev S) (he : PEnt S w v t) : PT w' b w'.heap.size tab hv pv ev' H P (es ++ [v]) (items ++ [t]) := by
  have key : ∀ (S : Nat → Prop) (u : Value) (t : It), Away w.heap.size b hv pv ev S → PEnt S w u t → ∃ S, Away w'.heap.size b hv pv ev' S ∧ PEnt S w' u t := by
    intro S u t a1 a4
    refine ⟨S, fun k hk => ?_, a4.frame (fun k k1 => ha.block k (a1 k k1).2.1 (by have := (a1 k k1).1; omega) (a1 k k1).2.2.2.2)⟩
    obtain ⟨q1, q2, q3, q4, q5⟩ := a1 k hk
    exact ⟨q1, Nat.lt_of_lt_of_le q2 ha.size, q3, q4, own_new ha q2 q5⟩
  refine ⟨Nat.le_refl _, (ha.off 3 (by decide)).trans h.c3, (ha.off 4 (by decide)).trans h.c4, (ha.off 5 (by decide)).trans h.c5, ha.cell, ?_, ?_, ho, h.a45, fun k q1 q2 => ap_apart ha (fun k r1 r2 => h.a46 k r2 r1) h.o4 k q2 q1, fun k q1 q2 => ap_apart ha (fun k r1 r2 => h.a56 k r2 r1) h.o5 k q2 q1, by simp [h.len], fun i u t' hu ht => ?_⟩
  · exact ownsS_frame h.o4 (fun k h1 h2 h3 => ha.block k h2 (by omega) (fun e => h.a46 k h3 e))
  · exact ownsS_frame h.o5 (fun k h1 h2 h3 => ha.block k h2 (by omega) (fun e => h.a56 k h3 e))
  · by_cases hi' : i < es.length
    · rw [List.getElem?_append_left hi'] at hu
      rw [List.getElem?_append_left (by rw [← h.len]; exact hi')] at ht
      obtain ⟨S, a1, a4⟩ := h.ents i u t' hu ht
      exact key S u t' (fun k hk => ⟨(a1 k hk).1, Nat.lt_of_lt_of_le (a1 k hk).2.1 h.bnd, (a1 k hk).2.2⟩) a4
    · rw [List.getElem?_append_right (by omega)] at hu
      rw [List.getElem?_append_right (by rw [← h.len]; omega)] at ht
      rw [h.len] at hu
      have e : i - items.length = 0 := by
        have := (List.getElem?_eq_some_iff.1 hu).1
        simp at this
        omega
      rw [e] at hu ht
      simp only [List.getElem?_cons_zero, Option.some.injEq] at hu ht
      subst hu ht
      exact key S v t h1 he
/-- A block of the new entry is written. -/
theorem PT.set {w : World} {b nb : Nat} {tab : ByteArray} {hv pv ev : Value} {H P : List ByteArray} {es : List Value} {items : List It} (h : PT w b nb tab hv pv ev H P es items) (q o : Nat) (x : Value) (hb : b < q) (hn : nb ≤ q)
    (h4 : hv.ownBlock ≠ some q) (h5 : pv.ownBlock ≠ some q) (h6 : ev.ownBlock ≠ some q) : PT (w.setCell ⟨q, o, none⟩ x) b nb tab hv pv ev H P es items := by
  have hk : ∀ k, k ≠ q → (w.setCell ⟨q, o, none⟩ x).heap[k]? = w.heap[k]? := fun k hk => Below.heap_setCell _ _ _ _ (by simpa using hk)
  have hc : ∀ o', (w.setCell ⟨q, o, none⟩ x).cell? ⟨b, o', none⟩ = w.cell? ⟨b, o', none⟩ := fun o' => World.cell?_of_block (w := w) (hk b (by omega))
  refine ⟨by simpa [World.setCell] using h.bnd, (hc 3).trans h.c3, (hc 4).trans h.c4, (hc 5).trans h.c5, (hc 6).trans h.c6, ?_, ?_, ?_, h.a45, h.a46, h.a56, h.len, fun i v t hi ht => ?_⟩
  · exact ownsS_frame h.o4 (fun k _ _ h3 => hk k (fun e => h4 (e ▸ h3)))
  · exact ownsS_frame h.o5 (fun k _ _ h3 => hk k (fun e => h5 (e ▸ h3)))
  · exact ownsS_frame h.o6 (fun k _ _ h3 => hk k (fun e => h6 (e ▸ h3)))
  · obtain ⟨S, a1, a4⟩ := h.ents i v t hi ht
    exact ⟨S, a1, a4.frame (fun k k1 => hk k (by have := (a1 k k1).2.1; omega))⟩
/-- .. with its remark. -/
theorem PEnt.remark {S : Nat → Prop} {w : World} {tt q : Nat} {t : It} (h : PEnt S w (.iface tt (ptr q)) t) (r : ByteArray) (hr : r.size ≠ 0) :
    S q ∧ PEnt S ((w.setCell ⟨q, 0, none⟩ (.string (rmk r))).setCell ⟨q, 1, none⟩ (.bool true)) (.iface tt (ptr q)) ⟨t.k, t.path, t.full, t.v, r⟩ ∧ w.cell? ⟨q, 0, none⟩ = some (.string (rmk t.rem)) ∧ w.cell? ⟨q, 1, none⟩ = some (.bool (decide (t.rem.size ≠ 0))) ∧ (∀ o, w.frozen? ⟨q, o, none⟩ = false) := by
  obtain ⟨q', h1, h3, h4, h5, h6⟩ := h
  have e : q' = q := by
    rcases h6 with ⟨_, e, _⟩ | ⟨_, e, _⟩ | ⟨_, e⟩
    · simp only [Value.iface.injEq, Value.pointer.injEq, Option.some.injEq, Addr.mk.injEq, and_true] at e; exact e.2.symm
    · simp only [Value.iface.injEq, Value.pointer.injEq, Option.some.injEq, Addr.mk.injEq, and_true] at e; exact e.2.symm
    · simp only [Value.iface.injEq, Value.pointer.injEq, Option.some.injEq, Addr.mk.injEq, and_true] at e; exact e.2.symm
  subst e
  have hoff : ∀ o, o ≠ 0 → o ≠ 1 → ((w.setCell ⟨q', 0, none⟩ (.string (rmk r))).setCell ⟨q', 1, none⟩ (.bool true)).cell? ⟨q', o, none⟩ = w.cell? ⟨q', o, none⟩ := fun o a b =>
    (cell_set_off _ _ _ _ _ (by omega)).trans (cell_set_off _ _ _ _ _ (by omega))
  have hk : ∀ k, k ≠ q' → ((w.setCell ⟨q', 0, none⟩ (.string (rmk r))).setCell ⟨q', 1, none⟩ (.bool true)).heap[k]? = w.heap[k]? := fun k hk =>
    (Below.heap_setCell _ _ _ _ (by simpa using hk)).trans (Below.heap_setCell _ _ _ _ (by simpa using hk))
  refine ⟨h1, ⟨q', h1, ?_, ?_, ?_, ?_⟩, h3, h4, h5⟩
  · exact (cell_set_off _ _ _ _ _ (by omega)).trans (cell_set_same _ _ _ _ _ h3)
  · rw [cell_set_same _ _ _ _ _ ((cell_set_off _ _ _ _ _ (by omega)).trans h4), decide_eq_true (show r.size ≠ 0 from hr)]
  · intro o
    rw [World.frozen?_setCell, World.frozen?_setCell]
    exact h5 o
  · rcases h6 with ⟨a, b, c⟩ | ⟨a, b, c, d, pv, lo, hi, e, hs, f⟩ | h6
    · exact .inl ⟨a, b, (hoff 2 (by omega) (by omega)).trans c⟩
    · exact .inr (.inl ⟨a, b, (hoff 2 (by omega) (by omega)).trans c, (hoff 3 (by omega) (by omega)).trans d, pv, lo, hi, (hoff 4 (by omega) (by omega)).trans e, hs, f.frame (fun k k1 k2 => hk k (hs k k1 k2).2)⟩)
    · exact .inr (.inr h6)
theorem Ap.pc {b c : Nat} {v v' : Value} {w w' : World} {s : ByteArray} {a : Nat} (h : Ap b c v w w' v') (p : PC w b s a) (hc : 3 ≤ c) : PC w' b s a :=
  ⟨(h.off 0 (by omega)).trans p.T, (h.off 1 (by omega)).trans p.A, (h.off 2 (by omega)).trans p.L, fun o => (h.froz o).trans (p.F o), Nat.lt_of_lt_of_le p.lt h.size⟩
theorem Ap.below {b c : Nat} {v v' : Value} {w w' : World} (h : Ap b c v w w' v') (hb : b < w.heap.size) (hv : ∀ k, v.ownBlock = some k → b < k) : Below b w w' :=
  ⟨h.os, h.tape, h.output, h.size, fun k hk => h.block k (by omega) (by omega) (fun e => by have := hv k e; omega)⟩
theorem Kb.bel {b : Nat} {w w' : World} (h : Kb b w w') (hb : b < w.heap.size) : Below b w w' := ⟨h.os, h.tape, h.output, h.size, fun k hk => h.block k (by omega) (by omega)⟩
end Go.Proofs.YtdebjhdafnpfkaaGreatDoor

namespace Go.Proofs.YtdebjhdafnpfkaaGreatDoor
open Go.ChangeShapes Go.WideShapes Go.ChangeAt Go.RowKit
set_option linter.unusedVariables false
set_option linter.unusedSimpArgs false

/-- The program's reader between two lines. -/
structure PS (w : World) (b : Nat) (s : ByteArray) (a : Nat) (items : List It) : Prop where
  pc : PC w b s a
  ok : ItsOk items
  len : items.length ≤ 4000
  pt : ∃ nb hv pv ev es, PT w b nb (jn (rtable items)) hv pv ev (hdrs items) (prs items) es items
/-- .. and when a line's entry was read. -/
structure EntOk (s : ByteArray) (b : Nat) (w w' : World) (y : St) (items : List It) (t : It) (v : Value) : Prop where
  e : y.e = 0
  pc : PC w' b s y.a
  bel : Below b w w'
  h : t.k = 91 → vpath t.path ∧ (jn t.path).size ≤ 4000
  p : t.k = 61 → vpath t.path ∧ vpath t.full ∧ (jn t.full).size ≤ 8001
  pt : ∃ nb hv pv ev es S, PT w' b nb (jn (rtable (items ++ [t]))) hv pv ev (hdrs (items ++ [t])) (prs (items ++ [t])) es items ∧ Away w'.heap.size b hv pv ev S ∧ PEnt S w' v t ∧ ∀ k, S k → nb ≤ k

theorem froz_new (w : World) (cs : Array Value) (t : TypeId) (q o : Nat) (hq : q = w.heap.size) : (w.alloc (.cells cs t)).frozen? ⟨q, o, none⟩ = false := by subst hq; simp
theorem jn_nil : jn [] = ⟨#[]⟩ := rfl
def hdrIt (p : List ByteArray) : It := ⟨91, p, [], V0, ⟨#[]⟩⟩
theorem ritem_hdr (s : ByteArray) (items : List It) (x : St) (he : x.e = 0) (h : bt s x.a = 91) : ritem s items x =
    (if (rmust s (rblanks s (rpath s (rblanks s ⟨x.a + 1, x.e, x.p⟩ false)).1 false) 93).e = 0 ∧ rtwice items (hdrIt (rpath s (rblanks s ⟨x.a + 1, x.e, x.p⟩ false)).2) = true then rno (rmust s (rblanks s (rpath s (rblanks s ⟨x.a + 1, x.e, x.p⟩ false)).1 false) 93) 6 x.a
     else rmust s (rblanks s (rpath s (rblanks s ⟨x.a + 1, x.e, x.p⟩ false)).1 false) 93, hdrIt (rpath s (rblanks s ⟨x.a + 1, x.e, x.p⟩ false)).2) := by
  unfold ritem
  rw [if_pos (by rw [ris_pk s x 91 he (by decide)]; exact decide_eq_true h)]
  rfl
theorem hdrOk_not (H P : List ByteArray) (p : ByteArray) : hdrOk H P p = !hdrNo H P p := by
  unfold hdrOk hdrNo
  rw [Bool.not_or]
theorem pairOk_not (H P : List ByteArray) (p : ByteArray) : pairOk H P p = !pairNo H P p := by
  unfold pairOk pairNo
  rw [Bool.not_or]
theorem lineAt_must {s : ByteArray} {x : St} {c : Nat} (he : x.e = 0) (hc : c ≠ 0) (h10 : c ≠ 10) (h : (rmust s x c).e = 0) : lineAt s (rmust s x c).a = lineAt s x.a := by
  by_cases hh : bt s x.a = c
  · rw [rmust_hit s x c he hc hh]
    show (if bt s x.a = 10 then _ else _) = _
    rw [if_neg (by omega)]
  · rw [rmust_miss s x c he hc hh] at h
    cases h

set_option maxRecDepth 100000 in
set_option maxHeartbeats 4000000 in
theorem readHeader_any (b : Nat) (s : ByteArray) (items : List It) (x : St) (w : World) (hs : s.size ≤ 4000) (he : x.e = 0) (hq : bt s x.a = 91) (h : PS w b s x.a items) :
    Calls Tryz.prog 103 #[.pointer (some ⟨b, 0, none⟩)] w fun e w' => (∃ q, e = .returned (ptr q) ∧ EntOk s b w w' (ritem s items x).1 items (ritem s items x).2 (.iface 177 (ptr q))) ∨ PBad s b w e w' (ritem s items x).1 := by
  have ha := bt_lt' s x.a 91 hq (by decide)
  obtain ⟨hpc, hok, hlen, nb, hv, pv, ev, es, hpt⟩ := h
  have h' : Hid (PC w b s x.a) := hpc
  have hltw := hpc.lt
  have HPT : Hid (PT w b nb (jn (rtable items)) hv pv ev (hdrs items) (prs items) es items) := hpt
  have HOK : Hid (ItsOk items) := hok
  have M : Hid (rmust s x 91 = ⟨x.a + 1, x.e, x.p⟩) := rmust_hit s x 91 he (by decide) hq
  have R : Hid _ := ritem_hdr s items x he hq
  have HE : Hid (x.e = 0) := he
  have L1 : Hid (lineAt s (x.a + 1) = lineAt s x.a) := by
    show (if bt s x.a = 10 then _ else _) = _
    rw [if_neg (by omega)]
  clear he hq hpc hok hpt
  have hH := hdrs_len items
  have hP := prs_len items
  go_enter Tryz.func103, Tryz.ntmps103
  go_wp2_with fail
  refine (pass_any b s x 91 _ hs HE.out (by omega) (by decide) h'.out).mono ?_
  rintro e w1 (⟨rfl, hok⟩ | ⟨hb, _⟩)
  · rw [M.out] at hok
    have hok' : Hid (POk s b w w1 ⟨x.a + 1, x.e, x.p⟩) := hok
    clear hok
    go_wp2_with fail
    refine (pblanks_any b s (x.a + 1) _ hs (by omega) hok'.out.pc).mono ?_
    rintro e w2 ⟨rfl, hp2, hk2⟩
    have HP2 : Hid (PC w2 b s (rblanks s ⟨x.a + 1, x.e, x.p⟩ false).a) := hp2
    have HK2 : Hid (Kc b w w2) := hok'.out.kc.trans hk2
    have hx2 : (rblanks s ⟨x.a + 1, x.e, x.p⟩ false).a ≤ s.size := scan_le _ _ _ (by show x.a + 1 ≤ _; omega)
    have HE2 : Hid ((rblanks s ⟨x.a + 1, x.e, x.p⟩ false).e = 0) := HE.out
    have L2 : Hid (lineAt s (rblanks s ⟨x.a + 1, x.e, x.p⟩ false).a = lineAt s x.a) := (lineAt_scan _ _ (by decide) _).trans L1.out
    clear hp2 hk2 hok' L1
    generalize rblanks s ⟨x.a + 1, x.e, x.p⟩ false = x2 at *
    have hgd := gd_path (Gd.refl (s := s) (x := x2) ⟨by omega, fun _ => hx2⟩)
    go_wp2_with fail
    refine (readPath_any b s x2 _ hs HE2.out hx2 HP2.out).mono ?_
    rintro e w3 (⟨rfl, hok3, hl3, hj3⟩ | ⟨hb3, q, hq⟩)
    · have hx3 : (rpath s x2).1.a ≤ s.size := hgd.1.2 hok3.e
      have hvp : Hid (vpath (rpath s x2).2) := rpath_vpath HE2.out hx2 hok3.e
      have hok3' : Hid (POk s b w2 w3 (rpath s x2).1) := hok3
      have HJ3 : Hid ((jn (rpath s x2).2).size ≤ s.size) := hj3
      have L3 : Hid (lineAt s (rpath s x2).1.a = lineAt s x.a) := hl3.trans L2.out
      clear hok3 hgd hl3 hj3
      generalize (rpath s x2).1 = x3 at *
      generalize (rpath s x2).2 = path at *
      go_wp2_with fail
      refine (pblanks_any b s x3.a _ hs hx3 hok3'.out.pc).mono ?_
      rintro e w4 ⟨rfl, hp4, hk4⟩
      have HP4 : Hid (PC w4 b s (rblanks s x3 false).a) := hp4
      have HK4 : Hid (Kc b w w4) := (HK2.out.trans hok3'.out.kc).trans hk4
      have hx4 : (rblanks s x3 false).a ≤ s.size := scan_le _ _ _ hx3
      have HE4 : Hid ((rblanks s x3 false).e = 0) := hok3'.out.e
      have L4 : Hid (lineAt s (rblanks s x3 false).a = lineAt s x.a) := (lineAt_scan _ _ (by decide) _).trans L3.out
      clear hp4 hk4
      generalize rblanks s x3 false = x4 at *
      go_wp2_with fail
      refine (pass_any b s x4 93 _ hs HE4.out hx4 (by decide) HP4.out).mono ?_
      rintro e w5 (⟨rfl, hok5⟩ | ⟨hb5, q, hq⟩)
      · have hok5' : Hid (POk s b w4 w5 (rmust s x4 93)) := hok5
        have L5 : Hid (lineAt s (rmust s x4 93).a = lineAt s x.a) := (lineAt_must HE4.out (by decide) (by decide) hok5.e).trans L4.out
        clear hok5
        have HK5 : Hid (Kc b w w5) := HK4.out.trans hok5'.out.kc
        have hz5 := HK5.out.kb.size
        have HPT5 : Hid (PT w5 b nb (jn (rtable items)) hv pv ev (hdrs items) (prs items) es items) := HPT.out.kc HK5.out
        have D1 : Hid (rtwice items (hdrIt path) = hdrNo (hdrs items) (prs items) (jn path)) := twice_hdr hvp.out HOK.out
        generalize hy5 : rmust s x4 93 = y5 at *
        clear hy5
        have hc4 := HPT5.out.c4
        have hc5 := HPT5.out.c5
        have hF5 := hok5'.out.pc.F
        have hlt5 := hok5'.out.pc.lt
        obtain ⟨ad4, cap4, hv4⟩ := ownsS_form HPT5.out.o4
        go_wp2_with fail
        refine (addHeader_any b (hdrs items) (prs items) hv pv (jn path) _ hlt5 (by have := HJ3.out; omega) (by omega) (by omega) hc4 hc5 hF5 HPT5.out.o4 HPT5.out.o5).mono ?_
        rintro e w6 (⟨hno, rfl, hw6⟩ | ⟨hyes, rfl, hv', hap, how⟩)
        · rw [hw6]
          clear hw6
          have F : Hid ((ritem s items x).1 = ⟨y5.a, 6, x.a⟩) := by
            unfold Hid
            rw [hdrOk_not] at hno
            have hno : hdrNo (hdrs items) (prs items) (jn path) = true := by simpa using hno
            rw [R.out, if_pos ⟨hok5'.out.e, by rw [D1.out]; exact hno⟩]
            exact rno_on _ _ _ hok5'.out.e
          go_wp2_with fail
          refine (fail_any b s y5.a 6 _ hok5'.out.pc).mono ?_
          rintro e w7 ⟨q, hq⟩
          have he' := hq.e
          subst he'
          refine ⟨rfl, .inr ?_⟩
          rw [F.out]
          rw [L5.out] at hq
          exact ⟨by simp, q, hq.trans HK5.out.kb⟩
        · have F : Hid (ritem s items x = (y5, hdrIt path)) := by
            unfold Hid
            rw [hdrOk_not] at hyes
            have hno : hdrNo (hdrs items) (prs items) (jn path) = false := by simpa using hyes
            rw [R.out, if_neg (by rintro ⟨_, q⟩; rw [D1.out, hno] at q; cases q)]
          have HAP : Hid (Ap b 4 hv w5 w6 hv') := hap
          have HPT6 : Hid (PT w6 b nb (jn (rtable items)) hv' pv ev (hdrs items ++ [jn path]) (prs items) es items) := HPT5.out.hdr (jn path) hap how
          have HP6 : Hid (PC w6 b s y5.a) := hap.pc hok5'.out.pc (by decide)
          have hz6 := hap.size
          have hc3 := HPT6.out.c3
          have hF6 := HP6.out.F
          have hlt6 := HP6.out.lt
          clear hap how hyes hc4 hc5 hF5
          go_wp2_with fail
          go_ret
          refine .inl ⟨_, rfl, ?_⟩
          rw [F.out]
          have HPT7 := HPT6.out.tab (jn path)
          have hz7 : (w6.setCell ⟨b, 3, none⟩ (.string (jn path))).heap.size = w6.heap.size := by simp [World.setCell]
          have hbn : Below b w w6 := (HK5.out.kb.bel hltw).trans (HAP.out.below hlt5 (fun k hk => (HPT5.out.o4.lt k hk).1))
          have hpc7 : PC (w6.setCell ⟨b, 3, none⟩ (.string (jn path))) b s y5.a :=
            ⟨(cell_set_off _ _ _ _ _ (by omega)).trans HP6.out.T, (cell_set_off _ _ _ _ _ (by omega)).trans HP6.out.A, (cell_set_off _ _ _ _ _ (by omega)).trans HP6.out.L, fun o => (World.frozen?_setCell _ _ _ _).trans (HP6.out.F o), by rw [hz7]; exact hlt6⟩
          refine ⟨hok5'.out.e, hpc7.alloc _, ?_, (fun _ => ⟨hvp.out, by have := HJ3.out; show (jn path).size ≤ 4000; omega⟩), (fun q => absurd (show (91 : Nat) = 61 from q) (by decide)), nb, hv', pv, ev, es, (fun k => k = w6.heap.size), ?_, ?_, ?_, (fun k hk => by rw [show k = w6.heap.size from hk]; exact HPT6.out.bnd)⟩
          · exact (hbn.setCell (p := ⟨b, 3, none⟩) (Nat.le_refl b) _).alloc (by rw [hz7]; exact Nat.le_of_lt hlt6) _
          · rw [rtable_snoc, hdrs_snoc, prs_snoc]
            exact HPT7.alloc (by rw [hz7]; exact hlt6) _
          · rintro k rfl
            refine ⟨hlt6, by simp [World.setCell], fun hk => ?_, fun hk => ?_, fun hk => ?_⟩
            · have := (HPT6.out.o4.lt _ hk).2; omega
            · have := (HPT6.out.o5.lt _ hk).2; omega
            · have := (HPT6.out.o6.lt _ hk).2; omega
          · refine ⟨w6.heap.size, rfl, ?_, ?_, ?_, .inl ⟨rfl, ?_, ?_⟩⟩
            · rw [World.cell?_alloc_at _ _ _ _ (by simp [World.setCell])]; rfl
            · rw [World.cell?_alloc_at _ _ _ _ (by simp [World.setCell])]; rfl
            · exact fun o => froz_new _ _ _ _ _ hz7.symm
            · rfl
            · rw [World.cell?_alloc_at _ _ _ _ (by simp [World.setCell])]; rfl
      · have he' := hq.e
        subst he'
        refine ⟨rfl, .inr ?_⟩
        have F : (ritem s items x).1 = rmust s x4 93 := by
          rw [R.out, if_neg (fun q => hb5 q.1)]
        rw [F]
        exact ⟨hb5, q, hq.trans HK4.out.kb⟩
    · have he' := hq.e
      subst he'
      refine ⟨rfl, .inr ?_⟩
      have e1 : rmust s (rblanks s (rpath s x2).1 false) 93 = rblanks s (rpath s x2).1 false := rmust_off _ _ _ hb3
      have F : (ritem s items x).1 = rblanks s (rpath s x2).1 false := by
        rw [R.out, e1, if_neg (fun q => hb3 q.1)]
      rw [F]
      exact PBad.same ⟨hb3, q, hq.trans HK2.out.kb⟩ rfl rfl
  · rw [M.out] at hb
    exact absurd HE.out hb
end Go.Proofs.YtdebjhdafnpfkaaGreatDoor

namespace Go.Proofs.YtdebjhdafnpfkaaGreatDoor
open Go.ChangeShapes Go.WideShapes Go.ChangeAt Go.RowKit
set_option linter.unusedVariables false
set_option linter.unusedSimpArgs false

def prIt (p full : List ByteArray) (v : V) : It := ⟨61, p, full, v, ⟨#[]⟩⟩
theorem ritem_pair (s : ByteArray) (items : List It) (x : St) (he : x.e = 0) (h : bt s x.a ≠ 91) : ritem s items x =
    (if (rval s 7 0 (rblanks s (rmust s (rblanks s (rpath s x).1 false) 61) false)).1.e = 0 ∧ rtwice items (prIt (rpath s x).2 (rtable items ++ (rpath s x).2) (rval s 7 0 (rblanks s (rmust s (rblanks s (rpath s x).1 false) 61) false)).2) = true
     then rno (rval s 7 0 (rblanks s (rmust s (rblanks s (rpath s x).1 false) 61) false)).1 6 x.a else (rval s 7 0 (rblanks s (rmust s (rblanks s (rpath s x).1 false) 61) false)).1,
     prIt (rpath s x).2 (rtable items ++ (rpath s x).2) (rval s 7 0 (rblanks s (rmust s (rblanks s (rpath s x).1 false) 61) false)).2) := by
  unfold ritem
  rw [if_neg (by rw [ris_pk s x 91 he (by decide)]; simpa using h)]
  rfl
/-- A pair's full path, as text. -/
theorem full_none {T P : List ByteArray} (h : T = []) : jn (T ++ P) = jn P := by rw [h]; rfl
theorem full_some {T P : List ByteArray} (h : T ≠ []) (hp : P ≠ []) : jn (T ++ P) = jn T ++ ⟨#[46]⟩ ++ jn P := jn_app h hp

set_option maxRecDepth 100000 in
set_option maxHeartbeats 4000000 in
theorem readPair_any (b : Nat) (s : ByteArray) (items : List It) (x : St) (w : World) (m : Int) (hs : s.size ≤ 4000) (he : x.e = 0) (ha : x.a ≤ s.size) (hq : bt s x.a ≠ 91) (hG : 1 < b)
    (hm : w.cell? ⟨1, 0, none⟩ = some (.int .i64 m)) (h : PS w b s x.a items) :
    Calls Tryz.prog 105 #[.pointer (some ⟨b, 0, none⟩)] w fun e w' => (∃ q, e = .returned (ptr q) ∧ EntOk s b w w' (ritem s items x).1 items (ritem s items x).2 (.iface 94 (ptr q))) ∨ PBad s b w e w' (ritem s items x).1 := by
  obtain ⟨hpc, hok, hlen, nb, hv, pv, ev, es, hpt⟩ := h
  have h' : Hid (PC w b s x.a) := hpc
  have hltw := hpc.lt
  have hLL := hpc.L
  have HPT : Hid (PT w b nb (jn (rtable items)) hv pv ev (hdrs items) (prs items) es items) := hpt
  have HOK : Hid (ItsOk items) := hok
  have R : Hid _ := ritem_pair s items x he hq
  have HE : Hid (x.e = 0) := he
  have Hm : Hid _ := hm
  have HT : Hid (rtable items = [] ∨ (vpath (rtable items) ∧ (jn (rtable items)).size ≤ 4000)) := rtable_ok hok
  clear he hq hpc hok hpt hm
  have hH := hdrs_len items
  have hP := prs_len items
  have hgd := gd_path (Gd.refl (s := s) (x := x) ⟨by omega, fun _ => ha⟩)
  go_enter Tryz.func105, Tryz.ntmps105
  go_wp2_with fail
  refine (readPath_any b s x _ hs HE.out ha h'.out).mono ?_
  rintro e w3 (⟨rfl, hok3, hl3, hj3⟩ | ⟨hb3, q, hq⟩)
  · have hx3 : (rpath s x).1.a ≤ s.size := hgd.1.2 hok3.e
    have hvp : Hid (vpath (rpath s x).2) := rpath_vpath HE.out ha hok3.e
    have hok3' : Hid (POk s b w w3 (rpath s x).1) := hok3
    have HJ3 : Hid ((jn (rpath s x).2).size ≤ s.size) := hj3
    clear hok3 hgd hl3 hj3
    generalize (rpath s x).1 = x3 at *
    generalize (rpath s x).2 = path at *
    go_wp2_with fail
    refine (pblanks_any b s x3.a _ hs hx3 hok3'.out.pc).mono ?_
    rintro e w4 ⟨rfl, hp4, hk4⟩
    have HP4 : Hid (PC w4 b s (rblanks s x3 false).a) := hp4
    have HK4 : Hid (Kc b w w4) := hok3'.out.kc.trans hk4
    have hx4 : (rblanks s x3 false).a ≤ s.size := scan_le _ _ _ hx3
    have HE4 : Hid ((rblanks s x3 false).e = 0) := hok3'.out.e
    clear hp4 hk4
    generalize rblanks s x3 false = x4 at *
    have hgm := gd_must (Gd.refl (x := x4) (s := s) ⟨by omega, fun _ => hx4⟩) 61
    go_wp2_with fail
    refine (pass_any b s x4 61 _ hs HE4.out hx4 (by decide) HP4.out).mono ?_
    rintro e w5 (⟨rfl, hok5⟩ | ⟨hb5, q, hq⟩)
    · have hok5' : Hid (POk s b w4 w5 (rmust s x4 61)) := hok5
      have hx5 : (rmust s x4 61).a ≤ s.size := hgm.1.2 hok5.e
      clear hok5 hgm
      generalize rmust s x4 61 = x5 at *
      go_wp2_with fail
      refine (pblanks_any b s x5.a _ hs hx5 hok5'.out.pc).mono ?_
      rintro e w6 ⟨rfl, hp6, hk6⟩
      have HP6 : Hid (PC w6 b s (rblanks s x5 false).a) := hp6
      have HK6 : Hid (Kc b w w6) := (HK4.out.trans hok5'.out.kc).trans hk6
      have hx6 : (rblanks s x5 false).a ≤ s.size := scan_le _ _ _ hx5
      have HE6 : Hid ((rblanks s x5 false).e = 0) := hok5'.out.e
      clear hp6 hk6
      generalize rblanks s x5 false = x6 at *
      go_wp2_with fail
      refine (pvalue_any b s m hs hG x6 _ HE6.out hx6 (cell_kc (b := b) Hm.out hG HK6.out) HP6.out).mono ?_
      rintro e w7 (⟨v, rfl, hpv, hok7⟩ | ⟨hb7, q, hq⟩)
      · obtain ⟨vt, vu, rfl⟩ := hpv.iface
        have hpv' : Hid (PVal 7 w6.heap.size w7.heap.size w7 (.iface vt vu) (rval s 7 0 x6).2) := hpv
        have hok7' : Hid (POk s b w6 w7 (rval s 7 0 x6).1) := hok7
        clear hpv hok7
        generalize (rval s 7 0 x6).1 = y7 at *
        generalize (rval s 7 0 x6).2 = vv at *
        have HK7 : Hid (Kc b w w7) := HK6.out.trans hok7'.out.kc
        have hz7 := hok7'.out.kc.kb.size
        have hz6 := HK6.out.kb.size
        have HPT7 : Hid (PT w7 b nb (jn (rtable items)) hv pv ev (hdrs items) (prs items) es items) := HPT.out.kc HK7.out
        have hvf : Hid (vpath (rtable items ++ path)) := vpath_app (HT.out.imp id (fun q => q.1)) hvp.out
        have D1 : Hid (rtwice items (prIt path (rtable items ++ path) vv) = pairNo (hdrs items) (prs items) (jn (rtable items ++ path))) := twice_pair hvf.out HOK.out
        have hc3 := HPT7.out.c3
        have hF7 := hok7'.out.pc.F
        have hlt7 := hok7'.out.pc.lt
        have hfs : Hid ((jn (rtable items ++ path)).size ≤ 8001) := by
          unfold Hid
          have := HJ3.out
          rcases HT.out with q | q
          · rw [full_none q]; omega
          · rw [full_some q.1.1 hvp.out.1, ByteArray.size_append, ByteArray.size_append]
            have : (⟨#[46]⟩ : ByteArray).size = 1 := rfl
            omega
        have Rest : Hid (∀ full, full = jn (rtable items ++ path) → Calls Tryz.prog 123 #[.pointer (some ⟨b, 4, none⟩), .string full] w7 fun e w' =>
            (e = .returned (.bool false) ∧ (ritem s items x).1 = ⟨y7.a, 6, x.a⟩ ∧ w' = w7) ∨
            (e = .returned (.bool true) ∧ ritem s items x = (y7, prIt path (rtable items ++ path) vv) ∧ ∃ pv', Ap b 5 pv w7 w' pv' ∧ PT w' b nb (jn (rtable items)) hv pv' ev (hdrs items) (prs items ++ [jn (rtable items ++ path)]) es items)) := by
          rintro full rfl
          refine (addPair_any b (hdrs items) (prs items) hv pv _ _ hlt7 (by have := hfs.out; omega) (by omega) (by omega) (hdrs_size HOK.out) (prs_size HOK.out) HPT7.out.c4 HPT7.out.c5 hF7 HPT7.out.o4 HPT7.out.o5).mono ?_
          rintro e w' (⟨hno, rfl, hw⟩ | ⟨hyes, rfl, pv', hap, how⟩)
          · rw [pairOk_not] at hno
            have hno : pairNo (hdrs items) (prs items) (jn (rtable items ++ path)) = true := by simpa using hno
            refine .inl ⟨rfl, ?_, hw⟩
            rw [R.out, if_pos ⟨hok7'.out.e, by rw [D1.out]; exact hno⟩]
            exact rno_on _ _ _ hok7'.out.e
          · rw [pairOk_not] at hyes
            have hno : pairNo (hdrs items) (prs items) (jn (rtable items ++ path)) = false := by simpa using hyes
            refine .inr ⟨rfl, ?_, pv', hap, HPT7.out.pair _ hap how⟩
            rw [R.out, if_neg (by rintro ⟨_, q⟩; rw [D1.out, hno] at q; cases q)]
        have Fin : Hid (∀ (w8 : World) (pv' : Value), Ap b 5 pv w7 w8 pv' → PT w8 b nb (jn (rtable items)) hv pv' ev (hdrs items) (prs items ++ [jn (rtable items ++ path)]) es items → ritem s items x = (y7, prIt path (rtable items ++ path) vv) →
            EntOk s b w (w8.alloc (.cells #[.string ⟨#[]⟩, .bool false, .string (jn path), .string (jn (rtable items ++ path)), .iface vt vu] 101)) (ritem s items x).1 items (ritem s items x).2 (.iface 94 (ptr w8.heap.size))) := by
          intro w8 pv' hap hpt8 hri
          rw [hri]
          have hz8 := hap.size
          have hpc8 := hap.pc hok7'.out.pc (by decide)
          have hbn : Below b w w8 := (HK7.out.kb.bel hltw).trans (hap.below hlt7 (fun k hk => (HPT7.out.o5.lt k hk).1))
          refine ⟨hok7'.out.e, hpc8.alloc _, hbn.alloc (Nat.le_of_lt hpc8.lt) _, (fun q => absurd (show (61 : Nat) = 91 from q) (by decide)), (fun _ => ⟨hvp.out, hvf.out, hfs.out⟩), nb, hv, pv', ev, es, (fun k => k = w8.heap.size ∨ (w6.heap.size ≤ k ∧ k < w7.heap.size)), ?_, ?_, ?_, (fun k hk => by have q1 := (HPT.out.kc HK6.out).bnd; have q2 := hpt8.bnd; rcases hk with hk | hk <;> omega)⟩
          · rw [rtable_snoc, hdrs_snoc, prs_snoc]
            exact hpt8.alloc hpc8.lt _
          · rintro k (rfl | ⟨k1, k2⟩)
            · refine ⟨hpc8.lt, by simp, fun hk => ?_, fun hk => ?_, fun hk => ?_⟩
              · have := (hpt8.o4.lt _ hk).2; omega
              · have := (hpt8.o5.lt _ hk).2; omega
              · have := (hpt8.o6.lt _ hk).2; omega
            · have HPT6 := HPT.out.kc HK6.out
              refine ⟨by omega, by simp; omega, fun hk => ?_, own_new hap k2 (fun hk => ?_), fun hk => ?_⟩
              · have := (HPT6.o4.lt _ hk).2; omega
              · have := (HPT6.o5.lt _ hk).2; omega
              · have := (HPT6.o6.lt _ hk).2; omega
          · have HPT6 := HPT.out.kc HK6.out
            refine ⟨w8.heap.size, .inl rfl, ?_, ?_, fun o => froz_new _ _ _ _ _ rfl, .inr (.inl ⟨rfl, rfl, ?_, ?_, .iface vt vu, w6.heap.size, w7.heap.size, ?_, fun k k1 k2 => ⟨.inr ⟨k1, k2⟩, by omega⟩, ?_⟩)⟩
            · rw [World.cell?_alloc_at _ _ _ _ rfl]; rfl
            · rw [World.cell?_alloc_at _ _ _ _ rfl]; rfl
            · rw [World.cell?_alloc_at _ _ _ _ rfl]; rfl
            · rw [World.cell?_alloc_at _ _ _ _ rfl]; rfl
            · rw [World.cell?_alloc_at _ _ _ _ rfl]; rfl
            · refine hpv'.out.frame (fun k k1 k2 => ?_)
              rw [Below.heap_alloc _ _ _ (by omega)]
              exact hap.block k k2 (by omega) (fun hk => by have := (HPT6.o5.lt _ hk).2; omega)
        rcases HT.out with hT | hT
        · have te : (jn (rtable items)).toList.isEmpty = true := by rw [toList_empty, hT]; rfl
          have HF : Hid (jn path = jn (rtable items ++ path)) := (full_none hT).symm
          clear hT R
          generalize jn (rtable items) = tab at *
          go_wp2_with fail
          refine (Rest.out _ HF.out).mono ?_
          rintro e w8 (⟨rfl, hri, hw8⟩ | ⟨rfl, hri, pv', hap, hpt8⟩)
          · rw [hw8]
            clear hw8
            have Hri : Hid ((ritem s items x).1 = ⟨y7.a, 6, x.a⟩) := hri
            clear hri
            go_wp2_with fail
            refine (failAt_any b 6 (lineAt s x.a) _ hlt7).mono ?_
            rintro e w9 ⟨q, hq⟩
            have he' := hq.e
            subst he'
            refine ⟨rfl, .inr ?_⟩
            rw [Hri.out]
            exact ⟨by simp, q, hq.trans HK7.out.kb⟩
          · have HH : Hid _ := Fin.out w8 pv' hap hpt8 hri
            clear hap hpt8 hri
            go_wp2_with fail
            go_ret
            have hh := HH.out
            rw [← HF.out] at hh
            exact .inl ⟨_, rfl, hh⟩
        · have te : (jn (rtable items)).toList.isEmpty = false := by rw [toList_empty]; exact decide_eq_false (jn_size hT.1)
          have HF : Hid (jn (rtable items) ++ ⟨#[46]⟩ ++ jn path = jn (rtable items ++ path)) := (full_some hT.1.1 hvp.out.1).symm
          have hts := hT.2
          have hjs : (jn path).size ≤ 4000 := by have := HJ3.out; omega
          clear hT R
          generalize jn (rtable items) = tab at *
          go_wp2_with fail
          refine (Rest.out _ HF.out).mono ?_
          rintro e w8 (⟨rfl, hri, hw8⟩ | ⟨rfl, hri, pv', hap, hpt8⟩)
          · rw [hw8]
            clear hw8
            have Hri : Hid ((ritem s items x).1 = ⟨y7.a, 6, x.a⟩) := hri
            clear hri
            go_wp2_with fail
            refine (failAt_any b 6 (lineAt s x.a) _ hlt7).mono ?_
            rintro e w9 ⟨q, hq⟩
            have he' := hq.e
            subst he'
            refine ⟨rfl, .inr ?_⟩
            rw [Hri.out]
            exact ⟨by simp, q, hq.trans HK7.out.kb⟩
          · have HH : Hid _ := Fin.out w8 pv' hap hpt8 hri
            clear hap hpt8 hri
            rw [HF.out]
            go_wp2_with fail
            go_ret
            exact .inl ⟨_, rfl, HH.out⟩
      · have he' := hq.e
        subst he'
        refine ⟨rfl, .inr ?_⟩
        have F : (ritem s items x).1 = (rval s 7 0 x6).1 := by
          rw [R.out, if_neg (fun q => hb7 q.1)]
        rw [F]
        exact ⟨hb7, q, hq.trans HK6.out.kb⟩
    · have he' := hq.e
      subst he'
      refine ⟨rfl, .inr ?_⟩
      have hsk := stk_val s 7 0 (rblanks s (rmust s x4 61) false) hb5
      have hb6 : (rval s 7 0 (rblanks s (rmust s x4 61) false)).1.e ≠ 0 := by rw [hsk.1]; exact hb5
      have F : (ritem s items x).1 = (rval s 7 0 (rblanks s (rmust s x4 61) false)).1 := by
        rw [R.out, if_neg (fun q => hb6 q.1)]
      rw [F]
      exact PBad.same ⟨hb5, q, hq.trans HK4.out.kb⟩ hsk.1 hsk.2
  · have he' := hq.e
    subst he'
    refine ⟨rfl, .inr ?_⟩
    have e1 : rmust s (rblanks s (rpath s x).1 false) 61 = rblanks s (rpath s x).1 false := rmust_off _ _ _ hb3
    have hsk := stk_val s 7 0 (rblanks s (rblanks s (rpath s x).1 false) false) hb3
    have hb6 : (rval s 7 0 (rblanks s (rblanks s (rpath s x).1 false) false)).1.e ≠ 0 := by rw [hsk.1]; exact hb3
    have F : (ritem s items x).1 = (rval s 7 0 (rblanks s (rblanks s (rpath s x).1 false) false)).1 := by
      rw [R.out, e1, if_neg (fun q => hb6 q.1)]
    rw [F]
    exact PBad.same ⟨hb3, q, hq⟩ hsk.1 hsk.2
end Go.Proofs.YtdebjhdafnpfkaaGreatDoor

namespace Go.Proofs.YtdebjhdafnpfkaaGreatDoor
open Go.ChangeShapes Go.WideShapes Go.ChangeAt Go.RowKit
set_option linter.unusedVariables false
set_option linter.unusedSimpArgs false

def bareIt (k : Nat) : It := ⟨k, [], [], V0, ⟨#[]⟩⟩
theorem bare_ok {s : ByteArray} {b : Nat} {w : World} {x : St} {items : List It} (he : x.e = 0) (h : PS w b s x.a items) (k : Nat) (hk : k = 32 ∨ k = 35) :
    EntOk s b w (w.alloc (.cells #[.string ⟨#[]⟩, .bool false] 175)) x items (bareIt k) (.iface 173 (ptr w.heap.size)) := by
  obtain ⟨hpc, hok, hlen, nb, hv, pv, ev, es, hpt⟩ := h
  refine ⟨he, hpc.alloc _, (Below.refl _ _).alloc (Nat.le_of_lt hpc.lt) _, (fun q => absurd (show k = 91 from q) (by omega)), (fun q => absurd (show k = 61 from q) (by omega)), nb, hv, pv, ev, es, (fun j => j = w.heap.size), ?_, ?_, ?_, (fun j hj => by rw [show j = w.heap.size from hj]; exact hpt.bnd)⟩
  · rw [rtable_snoc, hdrs_snoc, prs_snoc, if_neg (show ¬ (bareIt k).k = 91 by show ¬ k = 91; omega), if_neg (show ¬ (bareIt k).k = 91 by show ¬ k = 91; omega), if_neg (show ¬ (bareIt k).k = 61 by show ¬ k = 61; omega)]
    exact hpt.alloc hpc.lt _
  · rintro j rfl
    refine ⟨hpc.lt, by simp, fun hk => ?_, fun hk => ?_, fun hk => ?_⟩
    · have := (hpt.o4.lt _ hk).2; omega
    · have := (hpt.o5.lt _ hk).2; omega
    · have := (hpt.o6.lt _ hk).2; omega
  · refine ⟨w.heap.size, rfl, ?_, ?_, fun o => froz_new _ _ _ _ _ rfl, .inr (.inr ⟨hk, rfl⟩)⟩
    · rw [World.cell?_alloc_at _ _ _ _ rfl]; rfl
    · rw [World.cell?_alloc_at _ _ _ _ rfl]; rfl

/-- What readEntry comes to. -/
def EntP (b : Nat) (s : ByteArray) (items : List It) (x : St) (w : World) (e : Ending) (w' : World) : Prop :=
  (bt s x.a = 91 ∨ letterB (bt s x.a) = true) ∧ ((∃ t q, e = .returned (.iface t (ptr q)) ∧ EntOk s b w w' (ritem s items x).1 items (ritem s items x).2 (.iface t (ptr q))) ∨ PBad s b w e w' (ritem s items x).1) ∨
  (¬ (bt s x.a = 91 ∨ letterB (bt s x.a) = true) ∧ ∃ t q, e = .returned (.iface t (ptr q)) ∧ ∀ k, k = 32 ∨ k = 35 → EntOk s b w w' x items (bareIt k) (.iface t (ptr q)))
theorem PS.drewN {w : World} {b : Nat} {s : ByteArray} {a : Nat} {items : List It} (h : PS w b s a items) (n : Nat) : PS (w.drewN n) b s a items :=
  ⟨h.pc.drewN n, h.ok, h.len, h.pt.elim fun nb ⟨hv, pv, ev, es, hpt⟩ => ⟨nb, hv, pv, ev, es, hpt.kc ((Kc.refl _ _).drewN n)⟩⟩
theorem EntOk.pre {s : ByteArray} {b : Nat} {w w0 w' : World} {y : St} {items : List It} {t : It} {v : Value} (h : EntOk s b w0 w' y items t v) (hb : Below b w w0) : EntOk s b w w' y items t v :=
  ⟨h.e, h.pc, hb.trans h.bel, h.h, h.p, h.pt⟩

set_option maxHeartbeats 2000000 in
theorem readEntry_any (b : Nat) (s : ByteArray) (items : List It) (x : St) (w : World) (m : Int) (hs : s.size ≤ 4000) (he : x.e = 0) (ha : x.a ≤ s.size) (hG : 1 < b)
    (hm : w.cell? ⟨1, 0, none⟩ = some (.int .i64 m)) (h : PS w b s x.a items) :
    Calls Tryz.prog 82 #[.pointer (some ⟨b, 0, none⟩)] w fun e w' => EntP b s items x w e w' := by
  have h' : Hid (PS w b s x.a items) := h
  have HE : Hid (x.e = 0) := he
  have Hm : Hid _ := hm
  have hlt := h.pc.lt
  clear h he hm
  have hD : Hid (∀ n, Below b w (w.drewN n)) := fun n => ((Kb.refl b w).drewN n).bel hlt
  by_cases h91 : bt s x.a = 91
  · have t1 : ((bt s x.a : Int) == 91) = true := by simp; omega
    have H91 : Hid (bt s x.a = 91) := h91
    clear h91
    go_enter Tryz.func82, Tryz.ntmps82
    go_wp2_with fail
    refine (peek_any b s x.a _ hs ha h'.out.pc).mono ?_
    rintro e w1 ⟨rfl, k1, rfl⟩
    go_wp2_with fail
    refine (readHeader_any b s items x _ hs HE.out H91.out (h'.out.drewN k1)).mono ?_
    rintro e w2 (⟨q, rfl, hok⟩ | ⟨hb1, q, hq⟩)
    · have hok' : Hid _ := hok
      clear hok
      go_wp2_with fail
      go_ret
      exact .inl ⟨.inl H91.out, .inl ⟨_, _, rfl, hok'.out.pre (hD.out k1)⟩⟩
    · have he' := hq.e
      subst he'
      exact ⟨rfl, .inl ⟨.inl H91.out, .inr ⟨hb1, q, hq.trans ((Kb.refl _ _).drewN k1)⟩⟩⟩
  · have t1 : ((bt s x.a : Int) == 91) = false := by simp; omega
    cases hl : letterB (bt s x.a)
    · have N : Hid (¬ (bt s x.a = 91 ∨ letterB (bt s x.a) = true)) := by
        rintro (q | q)
        · exact h91 q
        · rw [hl] at q; cases q
      clear h91
      go_enter Tryz.func82, Tryz.ntmps82
      go_wp2_with fail
      refine (peek_any b s x.a _ hs ha h'.out.pc).mono ?_
      rintro e w1 ⟨rfl, k1, rfl⟩
      go_wp2_with fail
      refine (isOfName_any _ _ (bt_lt _ _)).mono ?_
      rintro e w2 ⟨rfl, hw2⟩
      rw [hw2, hl]
      clear hw2
      have HS : Hid (PS (w.drewN k1) b s x.a items) := h'.out.drewN k1
      have HB : Hid (Below b w (w.drewN k1)) := hD.out k1
      generalize w.drewN k1 = w1 at *
      go_wp2_with fail
      go_ret
      exact .inr ⟨N.out, _, _, rfl, fun k hk => (bare_ok HE.out HS.out k hk).pre HB.out⟩
    · have H91 : Hid (bt s x.a ≠ 91) := h91
      have HL : Hid (letterB (bt s x.a) = true) := hl
      clear h91
      go_enter Tryz.func82, Tryz.ntmps82
      go_wp2_with fail
      refine (peek_any b s x.a _ hs ha h'.out.pc).mono ?_
      rintro e w1 ⟨rfl, k1, rfl⟩
      go_wp2_with fail
      refine (isOfName_any _ _ (bt_lt _ _)).mono ?_
      rintro e w2 ⟨rfl, hw2⟩
      rw [hw2, HL.out]
      clear hw2
      go_wp2_with fail
      refine (readPair_any b s items x (w.drewN k1) m hs HE.out ha H91.out hG Hm.out (h'.out.drewN k1)).mono ?_
      rintro e w2 (⟨q, rfl, hok⟩ | ⟨hb1, q, hq⟩)
      · have hok' : Hid _ := hok
        clear hok
        go_wp2_with fail
        go_ret
        exact .inl ⟨.inr HL.out, .inl ⟨_, _, rfl, hok'.out.pre (hD.out k1)⟩⟩
      · have he' := hq.e
        subst he'
        exact ⟨rfl, .inl ⟨.inr HL.out, .inr ⟨hb1, q, hq.trans ((Kb.refl _ _).drewN k1)⟩⟩⟩
end Go.Proofs.YtdebjhdafnpfkaaGreatDoor
