import Derived.Test.YtdebjhdafnpfkaaGreatDoorPure3
namespace Go.Proofs.YtdebjhdafnpfkaaGreatDoor
set_option linter.unusedVariables false
set_option linter.unusedSimpArgs false

theorem bt_end (s : ByteArray) (a : Nat) (h : s.size ≤ a) : bt s a = 0 := by unfold bt; rw [dif_neg (by omega)]
theorem ris_pk (s : ByteArray) (x : St) (c : Nat) (he : x.e = 0) (hc : c ≠ 0) : ris s x c = decide (bt s x.a = c) := by
  rw [Bool.eq_iff_iff]
  simp only [ris, decide_eq_true_eq]
  constructor
  · rintro ⟨_, _, h⟩; exact h
  · intro h
    refine ⟨he, ?_, h⟩
    rcases Nat.lt_or_ge x.a s.size with h1 | h1
    · exact h1
    · rw [bt_end s _ h1] at h; omega
theorem ris_off (s : ByteArray) (x : St) (c : Nat) (he : x.e ≠ 0) : ris s x c = false := by simp [ris, he]
theorem rno_off (x : St) (k q : Nat) (he : x.e ≠ 0) : rno x k q = x := by simp [rno, he]
theorem rno_on (x : St) (k q : Nat) (he : x.e = 0) : rno x k q = ⟨x.a, k, q⟩ := by simp [rno, he]
theorem rmust_hit (s : ByteArray) (x : St) (c : Nat) (he : x.e = 0) (hc : c ≠ 0) (h : bt s x.a = c) : rmust s x c = ⟨x.a + 1, x.e, x.p⟩ := by
  unfold rmust; rw [ris_pk s x c he hc, if_pos (by simpa using h)]
theorem rmust_miss (s : ByteArray) (x : St) (c : Nat) (he : x.e = 0) (hc : c ≠ 0) (h : bt s x.a ≠ c) : rmust s x c = ⟨x.a, 3, x.a⟩ := by
  unfold rmust; rw [ris_pk s x c he hc, if_neg (by simpa using h), rno_on x _ _ he]
theorem rmust_off (s : ByteArray) (x : St) (c : Nat) (he : x.e ≠ 0) : rmust s x c = x := by
  unfold rmust; rw [ris_off s x c he, if_neg (by simp), rno_off x _ _ he]

/-- What is wrong stays. -/
def Stk (x y : St) : Prop := x.e ≠ 0 → y.e = x.e ∧ y.p = x.p
theorem Stk.refl (x : St) : Stk x x := fun _ => ⟨rfl, rfl⟩
theorem Stk.trans {x y z : St} (h : Stk x y) (k : Stk y z) : Stk x z := fun he => by
  obtain ⟨h1, h2⟩ := h he
  obtain ⟨k1, k2⟩ := k (by rw [h1]; exact he)
  exact ⟨k1.trans h1, k2.trans h2⟩
theorem stk_no (x : St) (k q : Nat) : Stk x (rno x k q) := fun he => by rw [rno_off x k q he]; exact ⟨rfl, rfl⟩
theorem stk_must (s : ByteArray) (x : St) (c : Nat) : Stk x (rmust s x c) := fun he => by rw [rmust_off s x c he]; exact ⟨rfl, rfl⟩
theorem stk_blanks (s : ByteArray) (x : St) (l : Bool) : Stk x (rblanks s x l) := fun _ => ⟨rfl, rfl⟩
theorem stk_at (x : St) (a : Nat) : Stk x ⟨a, x.e, x.p⟩ := fun _ => ⟨rfl, rfl⟩
theorem stk_ite {x a b : St} {c : Prop} [Decidable c] (h1 : Stk x a) (h2 : Stk x b) : Stk x (if c then a else b) := by
  split
  · exact h1
  · exact h2
theorem stk_name (s : ByteArray) (x : St) : Stk x (rname s x).1 := by
  simp only [rname, rrun]
  have h1 : Stk x ⟨scan letterB s x.a, x.e, x.p⟩ := stk_at _ _
  exact stk_ite ((stk_ite (h1.trans (stk_no _ _ _)) h1).trans (stk_no _ _ _)) (stk_ite (h1.trans (stk_no _ _ _)) h1)
theorem stk_pathLoop (s : ByteArray) : ∀ (n : Nat) (x : St) (l : List ByteArray), Stk x (rpathLoop s n x l).1
  | 0, x, l => Stk.refl x
  | n + 1, x, l => by
    simp only [rpathLoop]
    split
    · exact ((stk_name s x).trans (stk_at _ _)).trans (stk_pathLoop s n _ _)
    · exact stk_name s x
theorem stk_path (s : ByteArray) (x : St) : Stk x (rpath s x).1 := by
  simp only [rpath]
  exact stk_ite ((stk_pathLoop _ _ _ _).trans (stk_no _ _ _)) (stk_pathLoop _ _ _ _)

/-- A path as text. -/
def dotS : ByteArray := ⟨#[46]⟩
def jn : List ByteArray → ByteArray
  | [] => ⟨#[]⟩
  | [n] => n
  | n :: m :: r => n ++ dotS ++ jn (m :: r)
theorem jn_snoc (n : ByteArray) : ∀ l : List ByteArray, l ≠ [] → jn (l ++ [n]) = jn l ++ dotS ++ n
  | [], h => absurd rfl h
  | [m], _ => rfl
  | m :: k :: r, _ => by
    show m ++ dotS ++ jn (k :: r ++ [n]) = m ++ dotS ++ jn (k :: r) ++ dotS ++ n
    rw [jn_snoc n (k :: r) (by simp)]
    simp only [ByteArray.append_assoc]
theorem ext_glue (s : ByteArray) (a b c : Nat) (h1 : a ≤ b) (h2 : b ≤ c) : s.extract a c = s.extract a b ++ s.extract b c := by
  rw [ByteArray.extract_append_extract, Nat.min_eq_left h1, Nat.max_eq_right h2]
theorem ext_one (s : ByteArray) (a : Nat) (h : bt s a = 46) : s.extract a (a + 1) = dotS := by
  have hl : a < s.size := by
    rcases Nat.lt_or_ge a s.size with h1 | h1
    · exact h1
    · rw [bt_end s _ h1] at h; omega
  apply ByteArray.ext_getElem
  · rw [ByteArray.size_extract]; show _ = 1; omega
  · intro i hi hi'
    have e : i = 0 := by
      have : i < 1 := hi'
      omega
    subst e
    rw [ByteArray.getElem_extract]
    have e1 := bt_in s a hl
    rw [h] at e1
    show s[a] = (46 : UInt8)
    exact UInt8.toNat_inj.1 e1

theorem size_ext (s : ByteArray) (a b : Nat) (h : b ≤ s.size) : (s.extract a b).size = b - a := by rw [ByteArray.size_extract]; omega
theorem ext_self (s : ByteArray) (a : Nat) : s.extract a a = ⟨#[]⟩ := by
  have := (ByteArray.extract_eq_empty_iff (b := s) (i := a) (j := a)).2 (by omega)
  exact this
theorem size_zero (t : ByteArray) (h : t.size = 0) : t = ⟨#[]⟩ := by
  apply ByteArray.ext_getElem h
  intro i hi
  omega
theorem rname_eq (s : ByteArray) (x : St) (he : x.e = 0) (hx : x.a ≤ s.size) : rname s x =
    (if scan letterB s x.a = x.a then ⟨x.a, 3, x.a⟩ else if 20 < scan letterB s x.a - x.a then ⟨scan letterB s x.a, 4, x.a⟩ else ⟨scan letterB s x.a, x.e, x.p⟩, s.extract x.a (scan letterB s x.a)) := by
  have h1 := scan_ge letterB s x.a
  have h2 := scan_le letterB s x.a hx
  simp only [rname, rrun, size_ext _ _ _ h2]
  generalize scan letterB s x.a = y at *
  by_cases hy : y = x.a
  · subst hy
    rw [if_neg (by omega), if_pos (by omega), if_pos rfl, rno_on (⟨x.a, x.e, x.p⟩ : St) _ _ he]
  · rw [if_neg hy, if_neg (by omega : ¬ y - x.a = 0)]
    by_cases h20 : 20 < y - x.a
    · rw [if_pos h20, if_pos h20, rno_on (⟨y, x.e, x.p⟩ : St) _ _ he]
    · rw [if_neg h20, if_neg h20]
end Go.Proofs.YtdebjhdafnpfkaaGreatDoor
