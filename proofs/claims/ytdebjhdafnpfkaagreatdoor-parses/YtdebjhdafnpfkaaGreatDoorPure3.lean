import Derived.Test.YtdebjhdafnpfkaaGreatDoorPure2
namespace Go.Proofs.YtdebjhdafnpfkaaGreatDoor
set_option linter.unusedVariables false

/-- Where the reader may be: within the text, or, if something is wrong, one behind its end. -/
def Inv (s : ByteArray) (x : St) : Prop := x.a ≤ s.size + 1 ∧ (x.e = 0 → x.a ≤ s.size)
/-- It goes on, within its bounds. -/
def Gd (s : ByteArray) (x y : St) : Prop := Inv s y ∧ x.a ≤ y.a

theorem rno_at (x : St) (k q : Nat) : (rno x k q).a = x.a := by unfold rno; split <;> rfl
theorem Gd.refl {s : ByteArray} {x : St} (h : Inv s x) : Gd s x x := ⟨h, Nat.le_refl _⟩
theorem Gd.trans {s : ByteArray} {x y z : St} (h : Gd s x y) (k : Gd s y z) : Gd s x z := ⟨k.1, Nat.le_trans h.2 k.2⟩
theorem gd_no {s : ByteArray} {x y : St} (h : Gd s x y) {k q : Nat} (hk : k ≠ 0) : Gd s x (rno y k q) := by
  refine ⟨?_, by rw [rno_at]; exact h.2⟩
  unfold rno
  split
  · exact ⟨h.1.1, fun e => absurd e hk⟩
  · exact h.1
theorem gd_step {s : ByteArray} {x y : St} (h : Gd s x y) {c : Nat} (hr : ris s y c = true) : Gd s x ⟨y.a + 1, y.e, y.p⟩ := by
  simp only [ris, decide_eq_true_eq] at hr
  refine ⟨⟨?_, fun _ => ?_⟩, ?_⟩
  · show y.a + 1 ≤ _; omega
  · show y.a + 1 ≤ _; omega
  · have := h.2; show x.a ≤ y.a + 1; omega
theorem gd_must {s : ByteArray} {x y : St} (h : Gd s x y) (c : Nat) : Gd s x (rmust s y c) := by
  unfold rmust
  split
  · rename_i hr; exact gd_step h hr
  · exact gd_no h (by decide)
theorem scan_big (p : Nat → Bool) (s : ByteArray) (a : Nat) (h : s.size ≤ a) : scan p s a = a := scan_stop _ _ _ (fun h' => by omega)
theorem gd_scan {s : ByteArray} {x y : St} (h : Gd s x y) (p : Nat → Bool) : Gd s x ⟨scan p s y.a, y.e, y.p⟩ := by
  have hg := scan_ge p s y.a
  refine ⟨⟨?_, fun he => scan_le _ _ _ (h.1.2 he)⟩, Nat.le_trans h.2 hg⟩
  show scan p s y.a ≤ _
  by_cases hl : y.a ≤ s.size
  · exact Nat.le_succ_of_le (scan_le _ _ _ hl)
  · rw [scan_big _ _ _ (by omega)]; exact h.1.1
theorem gd_blanks {s : ByteArray} {x y : St} (h : Gd s x y) (l : Bool) : Gd s x (rblanks s y l) := gd_scan h _
theorem gd_ite {s : ByteArray} {x a b : St} {c : Prop} [Decidable c] (h1 : Gd s x a) (h2 : Gd s x b) : Gd s x (if c then a else b) := by
  split
  · exact h1
  · exact h2
theorem gd_name {s : ByteArray} {x y : St} (h : Gd s x y) : Gd s x (rname s y).1 := by
  simp only [rname, rrun]
  have h1 : Gd s x ⟨scan letterB s y.a, y.e, y.p⟩ := gd_scan h _
  exact gd_ite (gd_no (gd_ite (gd_no h1 (by decide)) h1) (by decide)) (gd_ite (gd_no h1 (by decide)) h1)
theorem gd_pathLoop {s : ByteArray} {x : St} : ∀ (n : Nat) (y : St) (l : List ByteArray), Gd s x y → Gd s x (rpathLoop s n y l).1
  | 0, y, l, h => h
  | n + 1, y, l, h => by
    simp only [rpathLoop]
    split
    · rename_i hr; exact gd_pathLoop n _ _ (gd_step (gd_name h) hr)
    · exact gd_name h
theorem gd_path {s : ByteArray} {x y : St} (h : Gd s x y) : Gd s x (rpath s y).1 := by
  simp only [rpath]
  split
  · exact gd_no (gd_pathLoop _ _ _ h) (by decide)
  · exact gd_pathLoop _ _ _ h
theorem gd_wordAt {s : ByteArray} {x y : St} (h : Gd s x y) (a : Nat) (m p : Bool) : Gd s x (rwordAt s a m p y).1 := by
  have h1 : Gd s x (rrun s y).1 := gd_scan h _
  simp only [rwordAt]
  split
  · exact h1
  · split
    · exact gd_no h1 (by decide)
    · dsimp only
      split
      · exact gd_no h1 (by decide)
      · exact h1
theorem gd_word {s : ByteArray} {x y : St} (h : Gd s x y) : Gd s x (rword s y).1 := by
  simp only [rword]
  apply gd_wordAt
  split
  · rename_i hr
    rcases hr with hr | hr
    · exact gd_step h hr
    · exact gd_step h hr
  · exact h
theorem gd_textLoop {s : ByteArray} {x : St} : ∀ (n : Nat) (y : St) (t : ByteArray), Gd s x y → Gd s x (rtextLoop s n y t).1
  | 0, y, t, h => h
  | n + 1, y, t, h => by
    simp only [rtextLoop]
    split
    · exact h
    · rename_i he
      split
      · exact gd_no h (by decide)
      · rename_i hl
        have h1 : Gd s x ⟨y.a + 1, y.e, y.p⟩ := ⟨⟨by show y.a + 1 ≤ _; omega, fun _ => by show y.a + 1 ≤ _; omega⟩, Nat.le_succ_of_le h.2⟩
        split
        · exact h1
        · split
          · apply gd_textLoop
            simp only [rescSt]
            split
            · rename_i hr
              rcases hr with hr | hr | hr | hr
              · exact gd_step h1 hr
              · exact gd_step h1 hr
              · exact gd_step h1 hr
              · exact gd_step h1 hr
            · have e0 : y.e = 0 := Classical.byContradiction he
              simp only [rno, e0, if_true]
              exact ⟨⟨by show y.a + 1 + 1 ≤ _; omega, fun e => by cases e⟩, by show x.a ≤ y.a + 1 + 1; have := h.2; omega⟩
          · exact gd_textLoop n _ _ h1
theorem gd_text {s : ByteArray} {x y : St} (h : Gd s x y) : Gd s x (rtext s y).1 := gd_textLoop _ _ _ (gd_must h 34)

/-- A reader of values keeps its bounds. -/
def GdF (s : ByteArray) (f : St → St × V) : Prop := ∀ y, Inv s y → Gd s y (f y).1
theorem gd_f {s : ByteArray} {f : St → St × V} (hf : GdF s f) {x y : St} (h : Gd s x y) : Gd s x (f y).1 := h.trans (hf y h.1)
theorem gd_listLoop {s : ByteArray} {f : St → St × V} (hf : GdF s f) {x : St} : ∀ (n : Nat) (y : St) (l : List V), Gd s x y → Gd s x (rlistLoop s f n y l).1
  | 0, y, l, h => h
  | n + 1, y, l, h => by
    simp only [rlistLoop]
    split
    · exact h
    · split
      · exact gd_blanks h true
      · have h1 := gd_blanks (gd_f hf (gd_blanks h true)) true
        split
        · rename_i hr; exact gd_listLoop hf n _ _ (gd_step h1 hr)
        · exact h1
theorem gd_list {s : ByteArray} {f : St → St × V} (hf : GdF s f) {x y : St} (h : Gd s x ⟨y.a + 1, y.e, y.p⟩) : Gd s x (rlist s f y).1 := gd_must (gd_listLoop hf _ _ _ h) 93
theorem gd_member {s : ByteArray} {f : St → St × V} (hf : GdF s f) {x y : St} (m : List ByteArray) (h : Gd s x y) : Gd s x (rmember s f m y).1 := by
  simp only [rmember]
  apply gd_blanks
  apply gd_f hf
  apply gd_blanks
  apply gd_must
  apply gd_blanks
  split
  · exact gd_no (gd_name (gd_blanks h false)) (by decide)
  · exact gd_name (gd_blanks h false)
theorem gd_groupLoop {s : ByteArray} {f : St → St × V} (hf : GdF s f) {x : St} : ∀ (n : Nat) (y : St) (l : List V) (m : List ByteArray), Gd s x y → Gd s x (rgroupLoop s f n y l m).1
  | 0, y, l, m, h => h
  | n + 1, y, l, m, h => by
    simp only [rgroupLoop]
    split
    · exact h
    · have h1 := gd_member hf m h
      split
      · rename_i hr; exact gd_groupLoop hf n _ _ _ (gd_step h1 hr)
      · exact h1
theorem gd_group {s : ByteArray} {f : St → St × V} (hf : GdF s f) {x y : St} (h : Gd s x ⟨y.a + 1, y.e, y.p⟩) : Gd s x (rgroup s f y).1 := by
  simp only [rgroup]
  have h1 := gd_blanks h false
  split
  · rename_i hr; exact gd_step h1 hr
  · exact gd_must (gd_groupLoop hf _ _ _ _ h1) 125
theorem gd_val {s : ByteArray} : ∀ (d nest : Nat), GdF s (rval s d nest)
  | 0, nest, y, h => Gd.refl h
  | d + 1, nest, y, h => by
    have h0 := Gd.refl h
    simp only [rval]
    split
    · exact gd_no h0 (by decide)
    · rename_i hc
      have h1 : Gd s y ⟨y.a + 1, y.e, y.p⟩ := ⟨⟨by show y.a + 1 ≤ _; omega, fun _ => by show y.a + 1 ≤ _; omega⟩, Nat.le_succ _⟩
      split
      · exact gd_no h0 (by decide)
      · split
        · exact gd_text h0
        · split
          · exact gd_list (gd_val d (nest + 1)) h1
          · split
            · exact gd_group (gd_val d (nest + 1)) h1
            · exact gd_word h0
end Go.Proofs.YtdebjhdafnpfkaaGreatDoor
