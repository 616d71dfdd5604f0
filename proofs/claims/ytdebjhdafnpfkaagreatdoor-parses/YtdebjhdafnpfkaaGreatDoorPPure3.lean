import Derived.Test.YtdebjhdafnpfkaaGreatDoorPPure2
namespace Go.Proofs.YtdebjhdafnpfkaaGreatDoor
set_option linter.unusedVariables false
set_option linter.unusedSimpArgs false

theorem rblanks_e (s : ByteArray) (x : St) (l : Bool) : (rblanks s x l).e = x.e := rfl
theorem rblanks_p (s : ByteArray) (x : St) (l : Bool) : (rblanks s x l).p = x.p := rfl
theorem listLoop_end (s : ByteArray) (f : St → St × V) (n : Nat) (y : St) (l : List V) (he : y.e = 0) (h : bt s (rblanks s y true).a = 93) : rlistLoop s f (n + 1) y l = (rblanks s y true, l) := by
  simp only [rlistLoop]
  rw [if_neg (by simp [he]), ris_pk s (rblanks s y true) 93 (by exact he) (by decide), if_pos (by simpa using h)]
theorem listLoop_bad (s : ByteArray) (f : St → St × V) (n : Nat) (y : St) (l : List V) (he : y.e = 0) (h : bt s (rblanks s y true).a ≠ 93) (hb : (f (rblanks s y true)).1.e ≠ 0) :
    rlistLoop s f (n + 1) y l = (rblanks s (f (rblanks s y true)).1 true, l ++ [(f (rblanks s y true)).2]) := by
  simp only [rlistLoop]
  rw [if_neg (by simp [he]), ris_pk s (rblanks s y true) 93 (by exact he) (by decide), if_neg (by simpa using h), ris_off s (rblanks s (f (rblanks s y true)).1 true) 44 (by exact hb), if_neg (by simp)]
theorem listLoop_more (s : ByteArray) (f : St → St × V) (n : Nat) (y : St) (l : List V) (he : y.e = 0) (h : bt s (rblanks s y true).a ≠ 93) (hb : (f (rblanks s y true)).1.e = 0) (hc : bt s (rblanks s (f (rblanks s y true)).1 true).a = 44) :
    rlistLoop s f (n + 1) y l = rlistLoop s f n ⟨(rblanks s (f (rblanks s y true)).1 true).a + 1, (f (rblanks s y true)).1.e, (f (rblanks s y true)).1.p⟩ (l ++ [(f (rblanks s y true)).2]) := by
  simp only [rlistLoop]
  rw [if_neg (by simp [he]), ris_pk s (rblanks s y true) 93 (by exact he) (by decide), if_neg (by simpa using h), ris_pk s (rblanks s (f (rblanks s y true)).1 true) 44 (by exact hb) (by decide), if_pos (by simpa using hc)]
  rfl
theorem listLoop_last (s : ByteArray) (f : St → St × V) (n : Nat) (y : St) (l : List V) (he : y.e = 0) (h : bt s (rblanks s y true).a ≠ 93) (hb : (f (rblanks s y true)).1.e = 0) (hc : bt s (rblanks s (f (rblanks s y true)).1 true).a ≠ 44) :
    rlistLoop s f (n + 1) y l = (rblanks s (f (rblanks s y true)).1 true, l ++ [(f (rblanks s y true)).2]) := by
  simp only [rlistLoop]
  rw [if_neg (by simp [he]), ris_pk s (rblanks s y true) 93 (by exact he) (by decide), if_neg (by simpa using h), ris_pk s (rblanks s (f (rblanks s y true)).1 true) 44 (by exact hb) (by decide), if_neg (by simpa using hc)]
theorem rlist_eq (s : ByteArray) (f : St → St × V) (x : St) : rlist s f x = (rmust s (rlistLoop s f (s.size + 3 - x.a) ⟨x.a + 1, x.e, x.p⟩ []).1 93, ⟨108, 0, ⟨#[]⟩, (rlistLoop s f (s.size + 3 - x.a) ⟨x.a + 1, x.e, x.p⟩ []).2, []⟩) := rfl
end Go.Proofs.YtdebjhdafnpfkaaGreatDoor
