import Derived.Test.YtdebjhdafnpfkaaGreatDoorB26
namespace Go.Proofs.YtdebjhdafnpfkaaGreatDoor
set_option linter.unusedVariables false
set_option linter.unusedSimpArgs false
def AllR : List ByteArray → List V → Prop
  | [], vs => vs = []
  | w :: ws, vs => ∃ v us, vs = v :: us ∧ Reads1 w v ∧ AllR ws us
theorem AllR.nil : AllR [] [] := rfl
theorem AllR.cons {w : ByteArray} {v : V} {ws : List ByteArray} {vs : List V} (h : Reads1 w v) (hs : AllR ws vs) : AllR (w :: ws) (v :: vs) := ⟨v, vs, rfl, h, hs⟩
theorem AllR.steps {motive : (ws : List ByteArray) → (vs : List V) → AllR ws vs → Prop} (nil : motive [] [] AllR.nil)
    (cons : ∀ {w : ByteArray} {v : V} {ws : List ByteArray} {vs : List V} (hw : Reads1 w v) (hs : AllR ws vs), motive ws vs hs → motive (w :: ws) (v :: vs) (AllR.cons hw hs)) :
    ∀ {ws : List ByteArray} {vs : List V} (h : AllR ws vs), motive ws vs h
  | [], _, rfl => nil
  | _ :: _, _, ⟨_, _, rfl, hw, hs⟩ => cons hw hs (AllR.steps nil cons hs)
/-- The rest of a list, with all that says nothing. -/
def tailO (ws : List ByteArray) : List Nat := (ws.map (fun w => bl w ++ [32, 44, 10, 9])).flatten ++ [93]
/-- The same, plainly, behind its first value. -/
def tailP (ws : List ByteArray) : List Nat := (ws.map (fun u => [44, 32] ++ bl u)).flatten ++ [93]
theorem head_stop {w : ByteArray} (h : ∃ c t, bl w = c :: t ∧ c ≠ 32 ∧ c ≠ 9 ∧ c ≠ 10 ∧ c ≠ 93) (b : Bool) (r : List Nat) : stopAt (blankB b) (bl w ++ r) := by
  obtain ⟨c, t, e, h1, h2, h3, _⟩ := h
  rw [e]
  exact stop_cons (by unfold blankB; simp; omega)
theorem list_odd {s : ByteArray} {d nest : Nat} (hn : nest < 6) {r : List Nat} {ws : List ByteArray} {vs : List V} (h : AllR ws vs) :
    ∀ (a : Nat) (b : List Nat) (n : Nat) (l : List V), Rest s a (b ++ (tailO ws ++ r)) → (∀ c ∈ b, blankB true c = true) → ws.length < n → ∃ p, rlistLoop s (rval s (d + 1) nest) n (s0 a) l = (s0 p, l ++ vs) ∧ Rest s p (93 :: r) := by
  induction h using AllR.steps with
  | nil =>
    intro a b n l hr hb hl
    obtain ⟨n, rfl⟩ : ∃ m, n = m + 1 := ⟨n - 1, by simp at hl; omega⟩
    have hr1 : Rest s (a + b.length) (93 :: r) := rest_app hr
    have e1 := blanks_rest (b := true) hr hb (stop_cons (by decide))
    refine ⟨a + b.length, ?_, hr1⟩
    rw [listLoop_end s _ n (s0 a) l rfl (by rw [e1]; exact (rest_cons hr1).2.1), e1, List.append_nil]
  | @cons w v ws vs hw hws ih =>
    intro a b n l hr hb hl
    obtain ⟨n, rfl⟩ : ∃ m, n = m + 1 := ⟨n - 1, by simp at hl; omega⟩
    have et : tailO (w :: ws) ++ r = bl w ++ ([32] ++ (44 :: ([10, 9] ++ (tailO ws ++ r)))) := by unfold tailO; simp
    rw [et] at hr
    have hr1 := rest_app hr
    have hr2 := rest_app hr1
    have hr3 := rest_app hr2
    obtain ⟨_, k3, hr4⟩ := rest_cons hr3
    rw [bl_len] at hr2 hr3 k3 hr4
    have e1 := blanks_rest (b := true) hr hb (head_stop hw.head true _)
    have e2 := hw.read s _ _ d nest hn hr1 (stop_cons (by decide))
    have e3 := blanks_rest (b := true) hr2 (by decide) (stop_cons (by decide))
    have h93 : bt s (a + b.length) ≠ 93 := by
      obtain ⟨c, t, e, _, _, _, h4⟩ := hw.head
      rw [e] at hr1
      rw [(rest_cons (r := t ++ _) hr1).2.1]
      exact h4
    obtain ⟨p, q1, q2⟩ := ih _ [10, 9] n (l ++ [v]) hr4 (by decide) (by simp at hl; omega)
    refine ⟨p, ?_, q2⟩
    rw [listLoop_more s _ n (s0 a) l rfl (by rw [e1]; exact h93) (by rw [e1, e2]; rfl) (by rw [e1, e2]; simp only; rw [e3]; exact k3), e1, e2]
    simp only
    rw [e3]
    have := q1
    simp only [List.append_assoc, List.cons_append, List.nil_append] at this ⊢
    exact this
theorem list_plain {s : ByteArray} {d nest : Nat} (hn : nest < 6) {r : List Nat} {ws : List ByteArray} {vs : List V} (h : AllR ws vs) :
    ∀ (w : ByteArray) (v : V) (a : Nat) (b : List Nat) (n : Nat) (l : List V), Reads1 w v → Rest s a (b ++ (bl w ++ (tailP ws ++ r))) → (∀ c ∈ b, blankB true c = true) → ws.length < n → ∃ p, rlistLoop s (rval s (d + 1) nest) n (s0 a) l = (s0 p, l ++ v :: vs) ∧ Rest s p (93 :: r) := by
  induction h using AllR.steps with
  | nil =>
    intro w v a b n l hw hr hb hl
    obtain ⟨n, rfl⟩ : ∃ m, n = m + 1 := ⟨n - 1, by simp at hl; omega⟩
    have hr1 := rest_app hr
    have hr2 : Rest s (a + b.length + (bl w).length) ([] ++ (93 :: r)) := rest_app hr1
    rw [bl_len] at hr2
    have e1 := blanks_rest (b := true) hr hb (head_stop hw.head true _)
    have e2 := hw.read s _ _ d nest hn hr1 (stop_cons (by decide))
    have e3 := blanks_rest (b := true) hr2 (by simp) (stop_cons (by decide))
    have h93 : bt s (a + b.length) ≠ 93 := by
      obtain ⟨c, t, e, _, _, _, h4⟩ := hw.head
      rw [e] at hr1
      rw [(rest_cons (r := t ++ _) hr1).2.1]
      exact h4
    have hr3 : Rest s (a + b.length + w.size) (93 :: r) := hr2
    refine ⟨_, ?_, hr3⟩
    rw [listLoop_last s _ n (s0 a) l rfl (by rw [e1]; exact h93) (by rw [e1, e2]; rfl) (by rw [e1, e2]; simp only; rw [e3]; show bt s (a + b.length + w.size) ≠ 44; rw [(rest_cons hr3).2.1]; decide), e1, e2]
    simp only
    rw [e3]
    rfl
  | @cons w2 v2 ws vs hw2 hws ih =>
    intro w v a b n l hw hr hb hl
    obtain ⟨n, rfl⟩ : ∃ m, n = m + 1 := ⟨n - 1, by simp at hl; omega⟩
    have et : tailP (w2 :: ws) ++ r = [] ++ (44 :: ([32] ++ (bl w2 ++ (tailP ws ++ r)))) := by unfold tailP; simp
    rw [et] at hr
    have hr1 := rest_app hr
    have hr2 := rest_app hr1
    have hr3 := rest_app hr2
    obtain ⟨_, k3, hr4⟩ := rest_cons hr3
    rw [bl_len] at hr2 hr3 k3 hr4
    have e1 := blanks_rest (b := true) hr hb (head_stop hw.head true _)
    have e2 := hw.read s _ _ d nest hn hr1 (stop_cons (by decide))
    have e3 := blanks_rest (b := true) hr2 (by simp) (stop_cons (by decide))
    have h93 : bt s (a + b.length) ≠ 93 := by
      obtain ⟨c, t, e, _, _, _, h4⟩ := hw.head
      rw [e] at hr1
      rw [(rest_cons (r := t ++ _) hr1).2.1]
      exact h4
    obtain ⟨p, q1, q2⟩ := ih w2 v2 _ [32] n (l ++ [v]) hw2 hr4 (by decide) (by simp at hl; omega)
    refine ⟨p, ?_, q2⟩
    rw [listLoop_more s _ n (s0 a) l rfl (by rw [e1]; exact h93) (by rw [e1, e2]; rfl) (by rw [e1, e2]; simp only; rw [e3]; exact k3), e1, e2]
    simp only
    rw [e3]
    have := q1
    simp only [List.append_assoc, List.cons_append, List.nil_append] at this ⊢
    exact this
def listV (vs : List V) : V := ⟨108, 0, ⟨#[]⟩, vs, []⟩
theorem val_list {s W : ByteArray} {a : Nat} {L r : List Nat} {vs : List V} {d nest : Nat} (hn : nest < 5) (eW : bl W = 91 :: (L ++ [93])) (h : Rest s a (bl W ++ r))
    (hl : ∃ p, rlistLoop s (rval s (d + 1) (nest + 1)) (s.size + 3 - a) (s0 (a + 1)) [] = (s0 p, [] ++ vs) ∧ Rest s p (93 :: r)) : rval s (d + 2) nest (s0 a) = (s0 (a + W.size), listV vs) := by
  obtain ⟨p, q1, q2⟩ := hl
  have hz := rest_len h
  rw [List.length_append, bl_len] at hz
  have hp := rest_len q2
  rw [List.length_cons] at hp
  rw [eW] at h
  obtain ⟨k1, k2, _⟩ := rest_cons (r := L ++ [93] ++ r) h
  unfold rval
  have e : bt s (s0 a).a = 91 := k2
  rw [e, if_neg (by rintro (h | h); exact h rfl; exact absurd h (by show ¬ s.size ≤ a; omega)), if_neg (by omega), if_neg (by decide), if_pos rfl, rlist_eq]
  show (rmust s (rlistLoop s (rval s (d + 1) (nest + 1)) (s.size + 3 - a) (s0 (a + 1)) []).1 93, (⟨108, 0, ⟨#[]⟩, (rlistLoop s (rval s (d + 1) (nest + 1)) (s.size + 3 - a) (s0 (a + 1)) []).2, []⟩ : V)) = _
  rw [q1]
  simp only
  rw [must_rest q2, show p + 1 = a + W.size by omega, List.nil_append]
  rfl
theorem tailO_len (ws : List ByteArray) : ws.length ≤ (tailO ws).length := by
  induction ws with
  | nil => exact Nat.zero_le _
  | cons w ws ih => unfold tailO at *; simp at *; omega
theorem tailP_len (ws : List ByteArray) : ws.length ≤ (tailP ws).length := by
  induction ws with
  | nil => exact Nat.zero_le _
  | cons w ws ih => unfold tailP at *; simp at *; omega
theorem reads_listO {W : ByteArray} {ws : List ByteArray} {vs : List V} (h : AllR ws vs) (e : bl W = [91, 32, 10] ++ tailO ws) : Reads2 W (listV vs) := by
  refine ⟨⟨91, _, e, by decide⟩, ?_⟩
  intro s a r d nest hn hr hs
  have hz := rest_len hr
  rw [List.length_append] at hz
  have ht := tailO_len ws
  have h1 := hr
  rw [e] at h1
  have h2 : Rest s a (91 :: ([32, 10] ++ (tailO ws ++ r))) := by simpa using h1
  refine val_list (L := [32, 10] ++ (ws.map (fun w => bl w ++ [32, 44, 10, 9])).flatten) hn (by rw [e]; unfold tailO; simp) hr ?_
  exact list_odd (by omega) h (a + 1) [32, 10] _ [] (rest_cons h2).2.2 (by decide) (by rw [e] at hz; simp at hz; omega)
/-- Values with commas between. -/
def joinP : List ByteArray → List Nat
  | [] => []
  | w :: ws => bl w ++ (ws.map (fun u => [44, 32] ++ bl u)).flatten
theorem reads_listP {W : ByteArray} {ws : List ByteArray} {vs : List V} (h : AllR ws vs) (e : bl W = 91 :: (joinP ws ++ [93])) : Reads2 W (listV vs) := by
  refine ⟨⟨91, _, e, by decide⟩, ?_⟩
  intro s a r d nest hn hr hs
  have hz := rest_len hr
  rw [List.length_append] at hz
  have h1 := hr
  rw [e] at h1
  refine val_list hn e hr ?_
  induction h using AllR.steps with
  | nil =>
    have h2 : Rest s a (91 :: ([] ++ (tailO [] ++ r))) := by simpa [joinP, tailO] using h1
    exact list_odd (by omega) AllR.nil (a + 1) [] _ [] (rest_cons h2).2.2 (by simp) (by simp; rw [e] at hz; simp at hz; omega)
  | @cons w v ws vs hw hws _ =>
    have h2 : Rest s a (91 :: ([] ++ (bl w ++ (tailP ws ++ r)))) := by simpa [joinP, tailP] using h1
    have ht := tailP_len ws
    have h3 := rest_len h2
    simp only [List.length_cons, List.length_append, List.length_nil] at h3
    exact list_plain (by omega) hws w v (a + 1) [] _ [] hw (rest_cons h2).2.2 (by simp) (by omega)
/-- Lines. -/
def isBl (b : List Nat) : Prop := ∀ c ∈ b, blankB false c = true
def RemOk (R : ByteArray) : Prop := R = ⟨#[]⟩ ∨ ∃ m, bl R = 35 :: m ∧ ∀ c ∈ m, c ≠ 10
theorem bl_head {b : List Nat} (h : isBl b) (c : Nat) (r : List Nat) : ∃ d t, b ++ c :: r = d :: t ∧ (d = 32 ∨ d = 9 ∨ d = c) := by
  cases b with
  | nil => exact ⟨c, r, rfl, .inr (.inr rfl)⟩
  | cons d b =>
    refine ⟨d, b ++ c :: r, rfl, ?_⟩
    have := h d (by simp)
    unfold blankB at this
    simp at this
    omega
/-- What stands behind something in its line. -/
theorem line_end {s R : ByteArray} (hR : RemOk R) {a : Nat} {b r : List Nat} (hb : isBl b) (h : Rest s a (b ++ (bl R ++ 10 :: r))) (x : It) (hx : x.rem = ⟨#[]⟩) :
    ∃ p, (if ris s (rblanks s (s0 a) false) 35 = true then ((⟨scan inLine s (rblanks s (s0 a) false).a, (rblanks s (s0 a) false).e, (rblanks s (s0 a) false).p⟩ : St), (⟨x.k, x.path, x.full, x.v, s.extract (rblanks s (s0 a) false).a (scan inLine s (rblanks s (s0 a) false).a)⟩ : It)) else (rblanks s (s0 a) false, x)) = (s0 p, ⟨x.k, x.path, x.full, x.v, R⟩) ∧ Rest s p (10 :: r) := by
  rcases hR with rfl | ⟨m, e, hm⟩
  · have h0 : Rest s a (b ++ 10 :: r) := h
    have e1 := blanks_rest (b := false) h0 hb (stop_cons (by decide))
    have h1 := rest_app h0
    refine ⟨_, ?_, h1⟩
    rw [e1, ris_rest h1, if_neg (by decide), ← hx]
  · rw [e] at h
    have e1 := blanks_rest (b := false) h hb (stop_cons (by decide))
    have h1 := rest_app h
    have h2 : Rest s (a + b.length) (bl R ++ 10 :: r) := by rw [e]; exact h1
    have e2 := scan_rest (p := inLine) h2 (by
      intro c hc
      rw [e] at hc
      simp only [List.mem_cons] at hc
      unfold inLine
      rcases hc with rfl | hc
      · rfl
      · simpa using hm c hc) (stop_cons (by decide))
    rw [bl_len] at e2
    have h3 := rest_app h2
    rw [bl_len] at h3
    refine ⟨_, ?_, h3⟩
    rw [e1, ris_rest (c := 35) (r := m ++ 10 :: r) h1, if_pos (by decide)]
    show ((⟨scan inLine s (a + b.length), 0, 0⟩ : St), (⟨x.k, x.path, x.full, x.v, s.extract (a + b.length) (scan inLine s (a + b.length))⟩ : It)) = _
    rw [e2, rest_bytes h2]
    rfl
theorem line_blank {s : ByteArray} {a : Nat} {b r : List Nat} (hb : isBl b) (h : Rest s a (b ++ 10 :: r)) (l : List It) : ∃ p, rline s l (s0 a) = (s0 p, ⟨32, [], [], V0, ⟨#[]⟩⟩) ∧ Rest s p (10 :: r) := by
  have e1 := blanks_rest (b := false) h hb (stop_cons (by decide))
  have h1 := rest_app h
  refine ⟨_, ?_, h1⟩
  unfold rline
  simp only
  rw [e1, if_pos (.inr (rest_cons h1).2.1)]
theorem line_remark {s R : ByteArray} {m : List Nat} (e : bl R = 35 :: m) (hm : ∀ c ∈ m, c ≠ 10) {a : Nat} {b r : List Nat} (hb : isBl b) (h : Rest s a (b ++ (bl R ++ 10 :: r))) (l : List It) : ∃ p, rline s l (s0 a) = (s0 p, ⟨35, [], [], V0, R⟩) ∧ Rest s p (10 :: r) := by
  have h0 := h
  rw [e] at h0
  have e1 := blanks_rest (b := false) h0 hb (stop_cons (by decide))
  have h1 := rest_app h0
  have h1' : Rest s (a + b.length) ([] ++ (bl R ++ 10 :: r)) := by rw [e]; exact h1
  obtain ⟨p, q1, q2⟩ := line_end (.inr ⟨m, e, hm⟩) (b := []) (by intro c hc; simp at hc) h1' ⟨35, [], [], V0, ⟨#[]⟩⟩ rfl
  have e2 := blanks_rest (b := false) (l := []) (r := 35 :: (m ++ 10 :: r)) h1 (by simp) (stop_cons (by decide))
  refine ⟨p, ?_, q2⟩
  unfold rline
  simp only
  obtain ⟨k1, k2, _⟩ := rest_cons (r := m ++ 10 :: r) h1
  rw [e1, if_neg (by show ¬ (s.size ≤ a + b.length ∨ bt s (a + b.length) = 10); rw [k2]; omega), ris_rest (c := 35) (r := m ++ 10 :: r) h1]
  have e3 : rblanks s (s0 (a + b.length)) false = s0 (a + b.length) := by rw [e2]; rfl
  rw [e3, ris_rest (c := 35) (r := m ++ 10 :: r) h1] at q1
  simp only [decide_true, if_true] at q1 ⊢
  rw [ris_rest (c := 35) (r := m ++ 10 :: r) h1, if_pos (by decide)]
  exact q1
theorem line_item {s : ByteArray} {a c : Nat} {b r : List Nat} (hb : isBl b) (h : Rest s a (b ++ c :: r)) (hc : c ≠ 10 ∧ c ≠ 35 ∧ c ≠ 32 ∧ c ≠ 9) (l : List It) (x : It) (q : Nat) (hi : ritem s l (s0 (a + b.length)) = (s0 q, x)) (hx : x.rem = ⟨#[]⟩)
    {R : ByteArray} (hR : RemOk R) {b' r' : List Nat} (hb' : isBl b') (hq : Rest s q (b' ++ (bl R ++ 10 :: r'))) : ∃ p, rline s l (s0 a) = (s0 p, ⟨x.k, x.path, x.full, x.v, R⟩) ∧ Rest s p (10 :: r') := by
  obtain ⟨p, q1, q2⟩ := line_end hR hb' hq x hx
  have e1 := blanks_rest (b := false) h hb (stop_cons (by unfold blankB; simp; omega))
  have h1 := rest_app h
  obtain ⟨k1, k2, _⟩ := rest_cons h1
  refine ⟨p, ?_, q2⟩
  unfold rline
  simp only
  rw [e1, if_neg (by show ¬ (s.size ≤ a + b.length ∨ bt s (a + b.length) = 10); rw [k2]; omega), ris_rest h1]
  rw [decide_eq_false hc.2.1, hi]
  exact q1
/-- A name. -/
structure NmOk (n : ByteArray) : Prop where
  let_ : ∀ c ∈ bl n, letterB c = true
  pos : 0 < n.size
  le : n.size ≤ 20
theorem NmOk.head {n : ByteArray} (h : NmOk n) : ∃ c t, bl n = c :: t ∧ letterB c = true := by
  cases e : bl n with
  | nil => have := bl_len n; rw [e] at this; have := h.pos; simp at *; omega
  | cons c t => exact ⟨c, t, rfl, h.let_ c (by rw [e]; simp)⟩
theorem letter_ne {c : Nat} (h : letterB c = true) : c ≠ 10 ∧ c ≠ 35 ∧ c ≠ 32 ∧ c ≠ 9 ∧ c ≠ 91 := by unfold letterB at h; simp at h; omega
theorem mitem_pair {s n w : ByteArray} {v : V} (hn : NmOk n) (hw : Reads2 w v) {a : Nat} {b2 b3 r : List Nat} (h2 : isBl b2) (h3 : isBl b3) (hs : stopAt letterB r) (h : Rest s a (bl n ++ (b2 ++ (61 :: (b3 ++ (bl w ++ r)))))) (l : List It)
    (ht : rtwice l ⟨61, [n], rtable l ++ [n], v, ⟨#[]⟩⟩ = false) : ∃ q, ritem s l (s0 a) = (s0 q, ⟨61, [n], rtable l ++ [n], v, ⟨#[]⟩⟩) ∧ Rest s q r := by
  obtain ⟨c, t, e, hc⟩ := hn.head
  obtain ⟨d, t2, e2, hd⟩ := bl_head h2 61 (b3 ++ (bl w ++ r))
  have hp := path_rest (n := n) (by rw [e2] at h; exact h) hn.let_ (by rcases hd with rfl | rfl | rfl <;> decide) (by omega) hn.pos hn.le
  have h1 := rest_app h
  rw [bl_len] at h1
  have eb2 := blanks_rest (b := false) h1 h2 (stop_cons (by decide))
  have h4 := rest_app h1
  have h5 := (rest_cons h4).2.2
  have eb3 := blanks_rest (b := false) h5 h3 (head_stop hw.head false r)
  have h6 := rest_app h5
  have ev := hw.read s _ _ 5 0 (by decide) h6 hs
  have h7 := rest_app h6
  rw [bl_len] at h7
  refine ⟨_, ?_, h7⟩
  rw [e] at h
  unfold ritem
  rw [ris_rest (r := t ++ (b2 ++ (61 :: (b3 ++ (bl w ++ r))))) h, if_neg (by have := letter_ne hc; simpa using this.2.2.2.2)]
  simp only
  rw [hp]
  simp only
  rw [eb2, must_rest h4, eb3, ev]
  simp only
  rw [ht, if_neg (by simp)]
theorem mitem_head {s n : ByteArray} (hn : NmOk n) {a : Nat} {b2 b3 r : List Nat} (h2 : isBl b2) (h3 : isBl b3) (h : Rest s a (91 :: (b2 ++ (bl n ++ (b3 ++ (93 :: r)))))) (l : List It)
    (ht : rtwice l ⟨91, [n], [], V0, ⟨#[]⟩⟩ = false) : ∃ q, ritem s l (s0 a) = (s0 q, ⟨91, [n], [], V0, ⟨#[]⟩⟩) ∧ Rest s q r := by
  obtain ⟨c, t, e, hc⟩ := hn.head
  obtain ⟨d, t2, e2, hd⟩ := bl_head h3 93 r
  obtain ⟨_, _, h1⟩ := rest_cons h
  have eb2 := blanks_rest (b := false) h1 h2 (by rw [e]; exact stop_cons (by have := letter_ne hc; unfold blankB; simp; omega))
  have h4 := rest_app h1
  have hp := path_rest (n := n) (by rw [e2] at h4; exact h4) hn.let_ (by rcases hd with rfl | rfl | rfl <;> decide) (by omega) hn.pos hn.le
  have h5 := rest_app h4
  rw [bl_len] at h5
  have eb3 := blanks_rest (b := false) h5 h3 (stop_cons (by decide))
  have h6 := rest_app h5
  have h7 := (rest_cons h6).2.2
  refine ⟨_, ?_, h7⟩
  unfold ritem
  rw [ris_rest h, if_pos (by decide)]
  simp only
  rw [show (⟨(s0 a).a + 1, (s0 a).e, (s0 a).p⟩ : St) = s0 (a + 1) from rfl, eb2, hp]
  simp only
  rw [eb3, must_rest h6, ht, if_neg (by simp)]
end Go.Proofs.YtdebjhdafnpfkaaGreatDoor

namespace Go.Proofs.YtdebjhdafnpfkaaGreatDoor
set_option linter.unusedVariables false
set_option linter.unusedSimpArgs false
theorem app_nil (s : ByteArray) : s ++ (⟨#[]⟩ : ByteArray) = s := ByteArray.append_empty
theorem nil_app (s : ByteArray) : (⟨#[]⟩ : ByteArray) ++ s = s := ByteArray.empty_append
/-- hemkeep's number, one, thing: plain, odd, and what is meant. -/
def numN (c : Int) : Nat := pk c 2000000
def numM (c : Int) : Bool := decide (pk (c.tdiv 7) 3 = 0 ∧ 0 < numN c)
def numP (c : Int) : ByteArray := if numM c = true then ⟨#[45]⟩ ++ dgtB (numN c) else dgtB (numN c)
def numO (c : Int) : ByteArray := ⟨#[if numM c = true then 45 else 43]⟩ ++ odB (numN c)
def oneP (k : Nat) (c : Int) : ByteArray := if k = 0 then numP c else if k = 1 then (if pk c 2 = 0 then falseS else trueS) else wordW c
def oneO (k : Nat) (c : Int) : ByteArray := if k = 0 then numO c else if k = 1 then (if pk c 2 = 0 then falseS else trueS) else wordW c
def oneV (k : Nat) (c : Int) : V := if k = 0 then numV (if numM c = true then - (numN c : Int) else numN c) else if k = 1 then boolV (decide (pk c 2 ≠ 0)) else textV (wordS c)
theorem reads_truth (c : Int) : Reads1 (if pk c 2 = 0 then falseS else trueS) (boolV (decide (pk c 2 ≠ 0))) := by
  have := reads_bool (decide (pk c 2 ≠ 0))
  by_cases h : pk c 2 = 0
  · simpa [h] using this
  · simpa [h] using this
theorem reads_oneP (k : Nat) (c : Int) : Reads1 (oneP k c) (oneV k c) := by
  unfold oneP oneV
  have hn : numN c ≤ 999999999999999 := by have := pk_lt c 2000000 (by decide); unfold numN; omega
  split
  · unfold numP
    by_cases h : numM c = true
    · rw [if_pos h, if_pos h]
      exact reads_sign (num_dig _ hn) true
    · rw [if_neg h, if_neg h]
      exact reads_num (num_dig _ hn)
  · split
    · exact reads_truth c
    · exact reads_word c
theorem reads_oneO (k : Nat) (c : Int) : Reads1 (oneO k c) (oneV k c) := by
  unfold oneO oneV
  have hn : numN c ≤ 999999999999999 := by have := pk_lt c 2000000 (by decide); unfold numN; omega
  split
  · exact reads_sign (num_od _ hn) (numM c)
  · split
    · exact reads_truth c
    · exact reads_word c
def lstO (g : Nat → ByteArray) : Nat → ByteArray
  | 0 => ⟨#[91, 32, 10]⟩
  | i + 1 => lstO g i ++ g i ++ ⟨#[32, 44, 10, 9]⟩
def lstP (g : Nat → ByteArray) : Nat → ByteArray
  | 0 => ⟨#[91]⟩
  | i + 1 => (if 0 < i then lstP g i ++ ⟨#[44, 32]⟩ else lstP g i) ++ g i
theorem bl_lstO (g : Nat → ByteArray) : ∀ n, bl (lstO g n) = [91, 32, 10] ++ (((List.range n).map g).map (fun w => bl w ++ [32, 44, 10, 9])).flatten
  | 0 => rfl
  | n + 1 => by
    unfold lstO
    rw [bl_app, bl_app, bl_lstO g n, List.range_succ]
    simp
    rfl
theorem bl_lstP (g : Nat → ByteArray) : ∀ n, bl (lstP g n) = 91 :: joinP ((List.range n).map g)
  | 0 => rfl
  | n + 1 => by
    unfold lstP
    rw [bl_app, List.range_succ]
    cases n with
    | zero =>
      rw [if_neg (by decide), bl_lstP g 0]
      simp [joinP]
    | succ n =>
      rw [if_pos (by omega), bl_app, bl_lstP g (n + 1), List.range_succ_eq_map]
      simp [joinP]
      rfl
theorem allR_range {g : Nat → ByteArray} {f : Nat → V} (h : ∀ i, Reads1 (g i) (f i)) : ∀ l : List Nat, AllR (l.map g) (l.map f)
  | [] => AllR.nil
  | i :: l => AllR.cons (h i) (allR_range h l)
def thK (c : Int) : Nat := pk c 3
def thL (c : Int) : Bool := decide (pk (c.tdiv 3) 3 = 0)
def thN (c : Int) : Nat := pk (c.tdiv 9) 9
def thA (c : Int) (i : Nat) : Int := c.tdiv 81 + i * 77777
def thP (c : Int) : ByteArray := if thL c = true then lstP (fun i => oneP (thK c) (thA c i)) (thN c) ++ ⟨#[93]⟩ else oneP (thK c) (c.tdiv 9)
def thO (c : Int) : ByteArray := if thL c = true then lstO (fun i => oneO (thK c) (thA c i)) (thN c) ++ ⟨#[93]⟩ else oneO (thK c) (c.tdiv 9)
def thV (c : Int) : V := if thL c = true then listV ((List.range (thN c)).map (fun i => oneV (thK c) (thA c i))) else oneV (thK c) (c.tdiv 9)
theorem reads_thP (c : Int) : Reads2 (thP c) (thV c) := by
  unfold thP thV
  split
  · refine reads_listP (allR_range (g := fun i => oneP (thK c) (thA c i)) (fun i => reads_oneP _ _) _) ?_
    rw [bl_app, bl_lstP]
    rfl
  · exact (reads_oneP _ _).two
theorem reads_thO (c : Int) : Reads2 (thO c) (thV c) := by
  unfold thO thV
  split
  · refine reads_listO (allR_range (g := fun i => oneO (thK c) (thA c i)) (fun i => reads_oneO _ _) _) ?_
    rw [bl_app, bl_lstO]
    unfold tailO
    simp
    rfl
  · exact (reads_oneO _ _).two
/-- Names. -/
def keyS : ByteArray := ⟨#[107, 101, 121, 45, 119, 105, 116, 104, 95, 57]⟩
def nmK (k i : Nat) : ByteArray := keyS.extract 0 (1 + k) ++ dgtB i
def nmB (i : Nat) (c : Int) : ByteArray := nmK (pk c 10) i
def tbB (i : Nat) : ByteArray := ⟨#[116]⟩ ++ dgtB i
/-- Which of them it was. -/
def dcL : List Nat → Nat
  | a :: b :: _ => if b = 49 then a - 38 else a - 48
  | _ => 0
theorem nmK_dec : ∀ k, k < 10 → ∀ i, i < 20 → dcL (bl (nmK k i)).reverse = i := by decide +kernel
theorem tbB_dec : ∀ i, i < 20 → dcL (bl (tbB i)).reverse = i := by decide +kernel
theorem nmK_ok : ∀ k, k < 10 → ∀ i, i < 20 → ((bl (nmK k i)).all letterB = true ∧ 0 < (nmK k i).size ∧ (nmK k i).size ≤ 20 ∧ (bl (nmK k i)).head? = some 107) := by decide +kernel
theorem tbB_ok : ∀ i, i < 20 → ((bl (tbB i)).all letterB = true ∧ 0 < (tbB i).size ∧ (tbB i).size ≤ 20 ∧ (bl (tbB i)).head? = some 116) := by decide +kernel
theorem mnm_ok (i : Nat) (c : Int) (h : i < 20) : NmOk (nmB i c) := by
  obtain ⟨h1, h2, h3, _⟩ := nmK_ok _ (pk_lt c 10 (by decide)) i h
  exact ⟨fun c hc => List.all_eq_true.1 h1 c hc, h2, h3⟩
theorem tb_ok (i : Nat) (h : i < 20) : NmOk (tbB i) := by
  obtain ⟨h1, h2, h3, _⟩ := tbB_ok i h
  exact ⟨fun c hc => List.all_eq_true.1 h1 c hc, h2, h3⟩
theorem nm_inj {i j : Nat} {c d : Int} (hi : i < 20) (hj : j < 20) (h : nmB i c = nmB j d) : i = j := by
  have h1 := nmK_dec _ (pk_lt c 10 (by decide)) i hi
  have h2 := nmK_dec _ (pk_lt d 10 (by decide)) j hj
  unfold nmB at h
  rw [h] at h1
  omega
theorem tb_inj {i j : Nat} (hi : i < 20) (hj : j < 20) (h : tbB i = tbB j) : i = j := by
  have h1 := tbB_dec i hi
  have h2 := tbB_dec j hj
  rw [h] at h1
  omega
theorem nm_tb {i j : Nat} {c : Int} (hi : i < 20) (hj : j < 20) : nmB i c ≠ tbB j := by
  intro h
  have h1 := (nmK_ok _ (pk_lt c 10 (by decide)) i hi).2.2.2
  have h2 := (tbB_ok j hj).2.2.2
  unfold nmB at h
  rw [h, h2] at h1
  cases h1
/-- What may stand ahead: no name or table of the i-th or later. -/
def MItOk (h q : Nat) (o : It) : Prop := (o.k ≠ 91 ∧ o.k ≠ 61) ∨ (o.k = 91 ∧ ∃ j, j < h ∧ j < 20 ∧ o.path = [tbB j]) ∨ (o.k = 61 ∧ ∃ j c tab, j < q ∧ j < 20 ∧ o.full = tab ++ [nmB j c] ∧ (tab = [] ∨ ∃ m, m < 20 ∧ tab = [tbB m]))
theorem starts_false {p w : List ByteArray} (h : w.length ≤ p.length → p.take w.length ≠ w) : rstarts p w = false := by
  unfold rstarts
  rw [decide_eq_false_iff_not]
  rintro ⟨h1, h2⟩
  exact h h1 h2
theorem twice_head {i q : Nat} (hi : i < 20) {l : List It} (h : ∀ o ∈ l, MItOk i q o) : rtwice l ⟨91, [tbB i], [], V0, ⟨#[]⟩⟩ = false := by
  unfold rtwice
  rw [List.any_eq_false]
  intro o ho
  have := h o ho
  unfold rclash
  simp only [Bool.not_eq_true, Bool.or_eq_false_iff]
  rcases this with ⟨h1, h2⟩ | ⟨h1, j, hj, hj2, hp⟩ | ⟨h1, j, c, tab, hj, hj2, hf, ht⟩
  · simp [h1, h2]
  · have hs : rstarts [tbB i] o.path = false := starts_false (fun _ => by
      rw [hp]
      intro e
      have : tbB i = tbB j := by simpa using e
      have := tb_inj hi hj2 this
      omega)
    simp [h1, hs]
  · have hs : rstarts [tbB i] o.full = false := starts_false (fun hl => by
      rw [hf]
      rcases ht with rfl | ⟨m, hm, rfl⟩
      · intro e
        have : tbB i = nmB j c := by simpa using e
        exact nm_tb hj2 hi this.symm
      · rw [hf] at hl; simp at hl)
    simp [h1, hs]
theorem mtwice_pair {i h0 : Nat} (hi : i < 20) {c : Int} {v : V} {tab : List ByteArray} (ht : tab = [] ∨ ∃ m, m < 20 ∧ tab = [tbB m]) {l : List It} (h : ∀ o ∈ l, MItOk h0 i o) : rtwice l ⟨61, [nmB i c], tab ++ [nmB i c], v, ⟨#[]⟩⟩ = false := by
  unfold rtwice
  rw [List.any_eq_false]
  intro o ho
  have := h o ho
  unfold rclash
  simp only [Bool.not_eq_true, Bool.or_eq_false_iff]
  rcases this with ⟨h1, h2⟩ | ⟨h1, j, hj, hj2, hp⟩ | ⟨h1, j, d, tab2, hj, hj2, hf, ht2⟩
  · simp [h1, h2]
  · have hs : rstarts o.path (tab ++ [nmB i c]) = false := starts_false (fun hl => by
      rw [hp]
      rcases ht with rfl | ⟨m, hm, rfl⟩
      · intro e
        have : tbB j = nmB i c := by simpa using e
        exact nm_tb hi hj2 this.symm
      · rw [hp] at hl; simp at hl)
    simp [h1, hs]
  · have hs1 : rstarts (tab ++ [nmB i c]) o.full = false := starts_false (fun hl => by
      rw [hf]
      intro e
      rcases ht with rfl | ⟨m, hm, rfl⟩ <;> rcases ht2 with rfl | ⟨m2, hm2, rfl⟩
      · have : nmB i c = nmB j d := by simpa using e
        have := nm_inj hi hj2 this
        omega
      · rw [hf] at hl; simp at hl
      · have : tbB m = nmB j d := by simpa using e
        exact nm_tb hj2 hm this.symm
      · have : tbB m = tbB m2 ∧ nmB i c = nmB j d := by simpa using e
        have := nm_inj hi hj2 this.2
        omega)
    have hs2 : rstarts o.full (tab ++ [nmB i c]) = false := starts_false (fun hl => by
      rw [hf]
      intro e
      rcases ht with rfl | ⟨m, hm, rfl⟩ <;> rcases ht2 with rfl | ⟨m2, hm2, rfl⟩
      · have : nmB j d = nmB i c := by simpa using e
        have := nm_inj hj2 hi this
        omega
      · have : tbB m2 = nmB i c := by simpa using e
        exact nm_tb hi hm2 this.symm
      · rw [hf] at hl; simp at hl
      · have : tbB m2 = tbB m ∧ nmB j d = nmB i c := by simpa using e
        have := nm_inj hj2 hi this.2
        omega)
    simp [h1, hs1, hs2]
theorem mrtable_snoc (l : List It) (o : It) : rtable (l ++ [o]) = if o.k = 91 then o.path else rtable l := by
  unfold rtable
  rw [List.reverse_append]
  by_cases h : o.k = 91
  · simp [h]
  · simp [h]
/-- A piece of a text and what is read of it. -/
def Chunk (t : ByteArray) (l its : List It) : Prop := ∀ (s : ByteArray) (a : Nat) (r : List Nat) (n : Nat), Rest s a (bl t ++ r) → rreadLoop s (n + its.length) (s0 a) l = rreadLoop s n (s0 (a + t.size)) (l ++ its)
theorem chunk_nil (l : List It) : Chunk ⟨#[]⟩ l [] := by
  intro s a r n h
  rw [List.append_nil]
  rfl
theorem Chunk.trans {t u : ByteArray} {l i1 i2 : List It} (h1 : Chunk t l i1) (h2 : Chunk u (l ++ i1) i2) : Chunk (t ++ u) l (i1 ++ i2) := by
  intro s a r n h
  rw [bl_app, List.append_assoc] at h
  have h' := rest_app h
  rw [bl_len] at h'
  rw [List.length_append, show n + (i1.length + i2.length) = (n + i2.length) + i1.length by omega, h1 s a _ _ h, h2 s _ _ _ h', ByteArray.size_append, List.append_assoc, show a + t.size + u.size = a + (t.size + u.size) by omega]
theorem chunk_of {t : ByteArray} {l : List It} {it : It} (h0 : 0 < t.size) (h : ∀ (s : ByteArray) (a : Nat) (r : List Nat), Rest s a (bl t ++ r) → ∃ p, rline s l (s0 a) = (s0 p, it) ∧ Rest s p (10 :: r)) : Chunk t l [it] := by
  intro s a r n hr
  obtain ⟨p, q1, q2⟩ := h s a r hr
  have e1 := rest_len hr
  have e2 := rest_len q2
  rw [List.length_append, bl_len] at e1
  rw [List.length_cons] at e2
  show rreadLoop s (n + 1) (s0 a) l = _
  conv => lhs; unfold rreadLoop
  rw [if_neg (by show ¬ ((0 : Nat) ≠ 0 ∨ s.size ≤ a); omega)]
  simp only
  rw [q1]
  simp only
  rw [if_pos (show (s0 p).e = 0 ∧ (s0 p).a < s.size from ⟨rfl, by show p < s.size; omega⟩), must_rest q2, show p + 1 = a + t.size by omega]
end Go.Proofs.YtdebjhdafnpfkaaGreatDoor
