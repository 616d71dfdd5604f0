import Derived.Test.YtdebjhdafnpfkaaGreatDoorWorld
namespace Go.Proofs.YtdebjhdafnpfkaaGreatDoor
open Go.ChangeShapes Go.WideShapes Go.ChangeAt Go.RowKit
set_option linter.unusedVariables false

theorem ret_bool {a b : Bool} (h : a = b) : Ending.returned (.bool a) = .returned (.bool b) := by rw [h]

theorem is_any (b : Nat) (s : ByteArray) (x : St) (it : Value) (c : Nat) (w : World) (hs : s.size ≤ 4000) (ha : x.a ≤ 8000)
    (h : RD w b s x it) :
    Calls Tryz.prog 56 #[.pointer (some ⟨b, 0, none⟩), .int .u8 c] w fun e w' => e = .returned (.bool (ris s x c)) ∧ ∃ n, w' = w.drewN n := by
  obtain ⟨a, e, p⟩ := x
  obtain ⟨hS, hA, hE, hP, hI, hF, hlt⟩ := h
  simp only at hA hE hP ha
  by_cases he : e = 0
  · subst he
    by_cases hl : a < s.size
    · have hd : decide (a < s.size) = true := by simpa using hl
      have hr : Hid (ris s ⟨a, 0, p⟩ c = ((s[a].toNat : Int) == (c : Int))) := by
        unfold Hid
        rw [bt_in s a hl, Bool.eq_iff_iff]
        simp [ris, hl]
        omega
      go_enter Tryz.func56, Tryz.ntmps56
      go_wp2
      go_quiet (fail)
      go_wp2
      go_ret
      exact ⟨ret_bool hr.out.symm, _, rfl⟩
    · have hd : decide (a < s.size) = false := by simpa using hl
      have hr : Hid (ris s ⟨a, 0, p⟩ c = false) := by
        unfold Hid
        simp [ris, hl]
      go_enter Tryz.func56, Tryz.ntmps56
      go_wp2
      go_quiet (fail)
      go_wp2
      go_ret
      exact ⟨ret_bool hr.out.symm, _, rfl⟩
  · have hd : ((e : Int) == 0) = false := by simpa using he
    have hr : Hid (ris s ⟨a, e, p⟩ c = false) := by
      unfold Hid
      simp [ris, he]
    go_enter Tryz.func56, Tryz.ntmps56
    go_wp2
    go_quiet (fail)
    go_wp2
    go_ret
    exact ⟨ret_bool hr.out.symm, _, rfl⟩

theorem no_any (b : Nat) (s : ByteArray) (x : St) (it : Value) (k q : Nat) (w : World)
    (h : RD w b s x it) :
    Calls Tryz.prog 31 #[.pointer (some ⟨b, 0, none⟩), .int .i64 k, .int .i64 q] w fun e w' => e = .returned (.tuple #[]) ∧ RD w' b s (rno x k q) it ∧ Kb b w w' := by
  have h' : Hid (RD w b s x it) := h
  obtain ⟨a, e, p⟩ := x
  obtain ⟨hS, hA, hE, hP, hI, hF, hlt⟩ := h
  simp only at hA hE hP
  by_cases he : e = 0
  · subst he
    go_enter Tryz.func31, Tryz.ntmps31
    go_wp2
    go_returns
    refine ⟨rfl, ?_, ((Kb.refl _ _).set _ _).set _ _⟩
    have := h'.out.setEP k q
    simpa [rno] using this
  · have hd : ((e : Int) == 0) = false := by simpa using he
    go_enter Tryz.func31, Tryz.ntmps31
    go_wp2
    go_returns
    refine ⟨rfl, ?_, Kb.refl _ _⟩
    have := h'.out
    simpa [rno, he] using this
end Go.Proofs.YtdebjhdafnpfkaaGreatDoor
