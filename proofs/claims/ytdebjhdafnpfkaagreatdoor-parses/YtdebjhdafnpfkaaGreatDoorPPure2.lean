import Derived.Test.YtdebjhdafnpfkaaGreatDoorPPure
namespace Go.Proofs.YtdebjhdafnpfkaaGreatDoor
set_option linter.unusedVariables false
set_option linter.unusedSimpArgs false

/-- One letter of a text. -/
def rletter (s : ByteArray) (y : St) : St × Nat :=
  if s.size ≤ y.a ∨ bt s y.a < 32 then (rno y 3 y.a, 0)
  else if bt s y.a = 92 then (⟨(rescSt s ⟨y.a + 1, y.e, y.p⟩).a + 1, (rescSt s ⟨y.a + 1, y.e, y.p⟩).e, (rescSt s ⟨y.a + 1, y.e, y.p⟩).p⟩, resc s ⟨y.a + 1, y.e, y.p⟩)
  else (⟨y.a + 1, y.e, y.p⟩, bt s y.a)
theorem textLoop_off (s : ByteArray) (n : Nat) (y : St) (t : ByteArray) (he : y.e ≠ 0) : rtextLoop s n y t = (y, t) := by
  cases n with
  | zero => rfl
  | succ n => simp only [rtextLoop, if_pos he]
theorem textLoop_letter (s : ByteArray) (n : Nat) (y : St) (t : ByteArray) (he : y.e = 0) (hq : bt s y.a ≠ 34) (hok : (rletter s y).1.e = 0) :
    rtextLoop s (n + 1) y t = rtextLoop s n (rletter s y).1 (put t (rletter s y).2) := by
  unfold rletter at *
  simp only [rtextLoop]
  rw [if_neg (by simp [he])]
  by_cases h1 : s.size ≤ y.a ∨ bt s y.a < 32
  · rw [if_pos h1, rno_on _ _ _ he] at hok; cases hok
  · rw [if_neg h1, if_neg h1, if_neg hq]
    by_cases h2 : bt s y.a = 92
    · rw [if_pos h2, if_pos h2]
    · rw [if_neg h2, if_neg h2]
theorem textLoop_bad (s : ByteArray) (n : Nat) (y : St) (t : ByteArray) (he : y.e = 0) (hq : bt s y.a ≠ 34) (hok : (rletter s y).1.e ≠ 0) :
    (rtextLoop s (n + 1) y t).1 = (rletter s y).1 := by
  unfold rletter at *
  simp only [rtextLoop]
  rw [if_neg (by simp [he])]
  by_cases h1 : s.size ≤ y.a ∨ bt s y.a < 32
  · rw [if_pos h1, if_pos h1]
  · rw [if_neg h1, if_neg h1, if_neg hq]
    rw [if_neg h1] at hok
    by_cases h2 : bt s y.a = 92
    · rw [if_pos h2] at hok
      rw [if_pos h2, if_pos h2, textLoop_off _ _ _ _ hok]
    · rw [if_neg h2] at hok
      exact absurd he hok
theorem textLoop_end (s : ByteArray) (n : Nat) (y : St) (t : ByteArray) (he : y.e = 0) (hq : bt s y.a = 34) : rtextLoop s (n + 1) y t = (⟨y.a + 1, y.e, y.p⟩, t) := by
  have hl : ¬ (s.size ≤ y.a ∨ bt s y.a < 32) := by
    rintro (h | h)
    · rw [bt_end s _ h] at hq; omega
    · omega
  simp only [rtextLoop]
  rw [if_neg (by simp [he]), if_neg hl, if_pos hq]

def escB (c : Nat) : Bool := decide (c = 92 ∨ c = 34 ∨ c = 110 ∨ c = 116)
def escN (c : Nat) : Nat := if c = 92 then 92 else if c = 34 then 34 else if c = 110 then 10 else if c = 116 then 9 else 92
theorem resc_eq (s : ByteArray) (x : St) (he : x.e = 0) : resc s x = escN (bt s x.a) := by
  unfold resc escN
  rw [ris_pk s x 92 he (by decide), ris_pk s x 34 he (by decide), ris_pk s x 110 he (by decide), ris_pk s x 116 he (by decide)]
  simp only [decide_eq_true_eq]
theorem rescSt_ok (s : ByteArray) (x : St) (he : x.e = 0) (h : escB (bt s x.a) = true) : rescSt s x = x := by
  unfold rescSt
  rw [ris_pk s x 92 he (by decide), ris_pk s x 34 he (by decide), ris_pk s x 110 he (by decide), ris_pk s x 116 he (by decide)]
  simp only [escB, decide_eq_true_eq] at h ⊢
  rw [if_pos h]
theorem rescSt_bad (s : ByteArray) (x : St) (he : x.e = 0) (h : escB (bt s x.a) = false) : rescSt s x = ⟨x.a, 3, x.a⟩ := by
  unfold rescSt
  rw [ris_pk s x 92 he (by decide), ris_pk s x 34 he (by decide), ris_pk s x 110 he (by decide), ris_pk s x 116 he (by decide)]
  simp only [escB, decide_eq_true_eq, decide_eq_false_iff_not] at h ⊢
  rw [if_neg h, rno_on _ _ _ he]
end Go.Proofs.YtdebjhdafnpfkaaGreatDoor
