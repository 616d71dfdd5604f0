import Derived.Test.YtdebjhdafnpfkaaGreatDoorPrA
namespace Go.Proofs.YtdebjhdafnpfkaaGreatDoor
open Go.ChangeShapes Go.WideShapes Go.ChangeAt Go.RowKit
set_option linter.unusedVariables false
set_option linter.unusedSimpArgs false

theorem ret_str' {a b : ByteArray} (h : a = b) : Ending.returned (.string a) = .returned (.string b) := by rw [h]

theorem isBlank_any (c : Nat) (w : World) (hc : c < 256) :
    Calls Tryz.prog 102 #[.int .u8 c] w fun e w' => e = .returned (.bool (blankB false c)) ∧ w' = w := by
  go_enter Tryz.func102, Tryz.ntmps102
  go_wp2
  all_goals go_ret
  all_goals exact ⟨ret_bool' (Bool.eq_iff_iff.2 (by simp only [blankB, decide_eq_true_eq, Bool.or_eq_true, Bool.and_eq_true, bne_iff_ne, ne_eq, beq_iff_eq, true_iff, Bool.false_eq_true, false_and, or_false, true_and]; omega)), rfl⟩

theorem isOfName_any (c : Nat) (w : World) (hc : c < 256) :
    Calls Tryz.prog 104 #[.int .u8 c] w fun e w' => e = .returned (.bool (letterB c)) ∧ w' = w := by
  go_enter Tryz.func104, Tryz.ntmps104
  go_wp2
  all_goals go_ret
  all_goals exact ⟨ret_bool' (Bool.eq_iff_iff.2 (by simp only [letterB, decide_eq_true_eq, Bool.or_eq_true, Bool.and_eq_true, bne_iff_ne, ne_eq, beq_iff_eq, true_iff, Bool.false_eq_true, false_and, or_false, true_and]; omega)), rfl⟩

theorem isInLine_any (c : Nat) (w : World) (hc : c < 256) :
    Calls Tryz.prog 85 #[.int .u8 c] w fun e w' => e = .returned (.bool (inLine c)) ∧ w' = w := by
  go_enter Tryz.func85, Tryz.ntmps85
  go_wp2
  all_goals go_ret
  all_goals exact ⟨ret_bool' (Bool.eq_iff_iff.2 (by simp only [inLine, decide_eq_true_eq, Bool.or_eq_true, Bool.and_eq_true, bne_iff_ne, ne_eq, beq_iff_eq, true_iff, Bool.false_eq_true, false_and, or_false, true_and]; omega)), rfl⟩

theorem mayStand_any (c : Nat) (w : World) (hc : c < 256) :
    Calls Tryz.prog 79 #[.int .u8 c] w fun e w' => e = .returned (.bool (okByte c)) ∧ w' = w := by
  go_enter Tryz.func79, Tryz.ntmps79
  go_wp2
  all_goals go_ret
  all_goals exact ⟨ret_bool' (Bool.eq_iff_iff.2 (by simp only [okByte, decide_eq_true_eq, Bool.or_eq_true, Bool.and_eq_true, bne_iff_ne, ne_eq, beq_iff_eq, true_iff, Bool.false_eq_true, false_and, or_false, true_and]; omega)), rfl⟩

theorem isBlankInList_any (c : Nat) (w : World) (hc : c < 256) :
    Calls Tryz.prog 148 #[.int .u8 c] w fun e w' => e = .returned (.bool (blankB true c)) ∧ w' = w := by
  cases hb : blankB false c
  · have h : ¬ (c = 32 ∨ c = 9) := by simpa [blankB] using hb
    go_enter Tryz.func148, Tryz.ntmps148
    go_wp2_with fail
    refine (isBlank_any c _ hc).mono ?_
    rintro e w1 ⟨rfl, rfl⟩
    rw [hb]
    go_wp2_with fail
    go_ret
    exact ⟨ret_bool' (Bool.eq_iff_iff.2 (by simp only [blankB, decide_eq_true_eq, beq_iff_eq, true_and]; omega)), rfl⟩
  · have h : c = 32 ∨ c = 9 := by simpa [blankB] using hb
    go_enter Tryz.func148, Tryz.ntmps148
    go_wp2_with fail
    refine (isBlank_any c _ hc).mono ?_
    rintro e w1 ⟨rfl, rfl⟩
    rw [hb]
    go_wp2_with fail
    go_ret
    exact ⟨ret_bool' (Bool.eq_iff_iff.2 (by simp only [blankB, decide_eq_true_eq, true_iff, true_and]; omega)), rfl⟩
end Go.Proofs.YtdebjhdafnpfkaaGreatDoor
