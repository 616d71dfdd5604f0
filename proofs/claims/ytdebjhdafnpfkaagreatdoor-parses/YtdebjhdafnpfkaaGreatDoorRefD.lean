import Derived.Test.YtdebjhdafnpfkaaGreatDoorRefC
import Derived.Test.YtdebjhdafnpfkaaGreatDoorWorld2
namespace Go.Proofs.YtdebjhdafnpfkaaGreatDoor
open Go.ChangeShapes Go.WideShapes Go.ChangeAt Go.RowKit
set_option linter.unusedVariables false

theorem bytes_ext {a b : ByteArray} (h : a.data.toList = b.data.toList) : a = b := by
  cases a; cases b
  simp only [ByteArray.mk.injEq]
  exact Array.toList_inj.1 h
theorem toList_beq (a b : ByteArray) : (a.toList == b.toList) = decide (a = b) := by
  rw [Bool.eq_iff_iff]
  simp only [beq_iff_eq, decide_eq_true_eq, ByteArray.toList_eq]
  exact ⟨bytes_ext, fun h => by rw [h]⟩
theorem toList_empty (t : ByteArray) : t.toList.isEmpty = decide (t.size = 0) := by
  rw [Bool.eq_iff_iff, ByteArray.toList_eq, List.isEmpty_iff, decide_eq_true_eq]
  constructor
  · intro h
    have := congrArg List.length h
    simpa using this
  · intro h
    exact List.eq_nil_of_length_eq_zero (by simpa using h)

theorem okDigits_stop (t : ByteArray) (k n : Nat) (hk : k < n) (h : okDigit t k = false) : okDigits t n = false := by
  induction n with
  | zero => omega
  | succ n ih =>
    simp only [okDigits, Bool.and_eq_false_iff]
    by_cases e : k = n
    · subst e; exact .inr h
    · exact .inl (ih (by omega))

set_option maxHeartbeats 1000000 in
theorem number_any (t : ByteArray) (w : World) (ht : t.size ≤ 4000) :
    Calls Tryz.prog 125 #[.string t] w fun e w' => e = .returned (.bool (rnumber t)) ∧ w' = w := by
  by_cases h0 : t.size = 0
  · have hE : t.toList.isEmpty = true := by rw [toList_empty]; simpa using h0
    have hr : Hid (rnumber t = false) := by unfold Hid; simp [rnumber, h0]
    go_enter Tryz.func125, Tryz.ntmps125
    go_wp2
    go_ret
    exact ⟨ret_bool hr.out.symm, rfl⟩
  · have hE : t.toList.isEmpty = false := by rw [toList_empty]; simpa using h0
    have hp : 0 < t.size := by omega
    by_cases h1 : 1 < t.size ∧ bt t 0 = 48
    · have h11 := h1.1
      have hd : decide (1 < t.size) = true := by simpa using h11
      have t1 : (((t[0]'hp).toNat : Int) == 48) = true := by rw [bt_in t 0 hp]; simp [h1.2]
      have hr : Hid (rnumber t = false) := by unfold Hid; simp [rnumber, h1]
      clear h1
      go_enter Tryz.func125, Tryz.ntmps125
      go_wp2
      go_ret
      exact ⟨ret_bool hr.out.symm, rfl⟩
    · have hr : Hid (rnumber t = okDigits t t.size) := by unfold Hid; simp [rnumber, h0]; intro _; omega
      have hfirst : t.size = 1 ∨ (1 < t.size ∧ ¬ bt t 0 = 48) := by omega
      clear h0 h1
      rcases hfirst with h1 | ⟨h1, h2⟩
      · have hd : decide ((t.size : Int) > 1) = false := by simp; omega
        have hd2 : decide (1 < t.size) = false := by simp; omega
        have HH : Hid (t.size = 1) := h1
        clear h1
        go_enter Tryz.func125, Tryz.ntmps125
        go_wp2
        go_loop [3] (fun i => ∃ k : Nat, k ≤ t.size ∧ i = .int .i64 k ∧ Hid (okDigits t k = true)) (fun i => t.size - (intOf i).toNat)
        case atStart => exact ⟨0, Nat.zero_le _, rfl, rfl⟩
        case round =>
          obtain ⟨k, hk, rfl, hok⟩ := hrel
          by_cases hlt : k < t.size
          · have hbt := bt_in t k hlt
            by_cases hdg : 48 ≤ bt t k ∧ bt t k ≤ 57
            · have hnext : Hid (okDigits t (k + 1) = true) := by unfold Hid; simp [okDigits, hok.out, okDigit, hdg]
              obtain ⟨hg1, hg2⟩ := hdg
              go_wp2
              go_round
              case rel => exact ⟨k + 1, by omega, by go_num, hnext⟩
              case measure => simp [intOf]; omega
            · by_cases h95 : bt t k = 95
              · have t95 : ((bt t k : Int) == 95) = true := by simp [h95]
                have t95n : ((bt t k : Int) != 95) = false := by simp [h95]
                have tg : decide ((bt t k : Int) ≤ 57) = false := by simp; omega
                have tg2 : decide (48 ≤ (bt t k : Int)) = true := by simp; omega
                by_cases hk0 : k = 0
                · have hfin : Hid (rnumber t = false) := by unfold Hid; rw [hr.out]; exact okDigits_stop t k _ hlt (by simp [okDigit, hk0]; simp [hk0] at hdg; omega)
                  have tk : ((k : Int) == 0) = true := by simp [hk0]
                  clear h95 hdg hk0
                  go_wp2
                  go_ret
                  exact ⟨ret_bool hfin.out.symm, rfl⟩
                · have tk : ((k : Int) == 0) = false := by simp; omega
                  by_cases hke : k + 1 = t.size
                  · have hfin : Hid (rnumber t = false) := by unfold Hid; rw [hr.out]; exact okDigits_stop t k _ hlt (by simp [okDigit, hke]; omega)
                    have tl : ((k : Int) == (t.size : Int) - 1) = true := by simp; omega
                    clear h95 hdg hk0 hke
                    go_wp2
                    go_ret
                    exact ⟨ret_bool hfin.out.symm, rfl⟩
                  · have tl : ((k : Int) == (t.size : Int) - 1) = false := by simp; omega
                    have hlt2 : k + 1 < t.size := by omega
                    have hbt2 := bt_in t (k + 1) hlt2
                    by_cases hn : bt t (k + 1) = 95
                    · have hfin : Hid (rnumber t = false) := by unfold Hid; rw [hr.out]; exact okDigits_stop t k _ hlt (by simp [okDigit, hn]; omega)
                      have tn : ((bt t (k + 1) : Int) == 95) = true := by simp [hn]
                      clear h95 hdg hk0 hke hn
                      go_wp2
                      go_ret
                      exact ⟨ret_bool hfin.out.symm, rfl⟩
                    · have hnext : Hid (okDigits t (k + 1) = true) := by unfold Hid; simp [okDigits, hok.out, okDigit, h95, hk0, hke, hn]
                      have tn : ((bt t (k + 1) : Int) == 95) = false := by simp; omega
                      clear h95 hdg hk0 hke hn
                      go_wp2
                      go_round
                      case rel => exact ⟨k + 1, by omega, by go_num, hnext⟩
                      case measure => simp [intOf]; omega
              · have hfin : Hid (rnumber t = false) := by unfold Hid; rw [hr.out]; exact okDigits_stop t k _ hlt (by simp [okDigit, h95]; omega)
                have t95 : ((bt t k : Int) == 95) = false := by simp; omega
                have t95n : ((bt t k : Int) != 95) = true := by simp; omega
                rcases (show bt t k < 48 ∨ 57 < bt t k by omega) with hq | hq
                · have tg2 : decide (48 ≤ (bt t k : Int)) = false := by simp; omega
                  clear h95 hdg
                  go_wp2
                  go_ret
                  exact ⟨ret_bool hfin.out.symm, rfl⟩
                · have tg2 : decide (48 ≤ (bt t k : Int)) = true := by simp; omega
                  have tg : decide ((bt t k : Int) ≤ 57) = false := by simp; omega
                  clear h95 hdg
                  go_wp2
                  go_ret
                  exact ⟨ret_bool hfin.out.symm, rfl⟩
          · have e : k = t.size := by omega
            subst e
            have hfin : Hid (rnumber t = true) := hr.out.trans hok.out
            go_wp2
            go_ret
            exact ⟨ret_bool hfin.out.symm, rfl⟩
      · have hd2 : decide (1 < t.size) = true := by simpa using h1
        have t1 : (((t[0]'hp).toNat : Int) == 48) = false := by rw [bt_in t 0 hp]; simp; omega
        clear h2
        go_enter Tryz.func125, Tryz.ntmps125
        go_wp2
        go_loop [3] (fun i => ∃ k : Nat, k ≤ t.size ∧ i = .int .i64 k ∧ Hid (okDigits t k = true)) (fun i => t.size - (intOf i).toNat)
        case atStart => exact ⟨0, Nat.zero_le _, rfl, rfl⟩
        case round =>
          obtain ⟨k, hk, rfl, hok⟩ := hrel
          by_cases hlt : k < t.size
          · have hbt := bt_in t k hlt
            by_cases hdg : 48 ≤ bt t k ∧ bt t k ≤ 57
            · have hnext : Hid (okDigits t (k + 1) = true) := by unfold Hid; simp [okDigits, hok.out, okDigit, hdg]
              obtain ⟨hg1, hg2⟩ := hdg
              go_wp2
              go_round
              case rel => exact ⟨k + 1, by omega, by go_num, hnext⟩
              case measure => simp [intOf]; omega
            · by_cases h95 : bt t k = 95
              · have t95 : ((bt t k : Int) == 95) = true := by simp [h95]
                have t95n : ((bt t k : Int) != 95) = false := by simp [h95]
                have tg : decide ((bt t k : Int) ≤ 57) = false := by simp; omega
                have tg2 : decide (48 ≤ (bt t k : Int)) = true := by simp; omega
                by_cases hk0 : k = 0
                · have hfin : Hid (rnumber t = false) := by unfold Hid; rw [hr.out]; exact okDigits_stop t k _ hlt (by simp [okDigit, hk0]; simp [hk0] at hdg; omega)
                  have tk : ((k : Int) == 0) = true := by simp [hk0]
                  clear h95 hdg hk0
                  go_wp2
                  go_ret
                  exact ⟨ret_bool hfin.out.symm, rfl⟩
                · have tk : ((k : Int) == 0) = false := by simp; omega
                  by_cases hke : k + 1 = t.size
                  · have hfin : Hid (rnumber t = false) := by unfold Hid; rw [hr.out]; exact okDigits_stop t k _ hlt (by simp [okDigit, hke]; omega)
                    have tl : ((k : Int) == (t.size : Int) - 1) = true := by simp; omega
                    clear h95 hdg hk0 hke
                    go_wp2
                    go_ret
                    exact ⟨ret_bool hfin.out.symm, rfl⟩
                  · have tl : ((k : Int) == (t.size : Int) - 1) = false := by simp; omega
                    have hlt2 : k + 1 < t.size := by omega
                    have hbt2 := bt_in t (k + 1) hlt2
                    by_cases hn : bt t (k + 1) = 95
                    · have hfin : Hid (rnumber t = false) := by unfold Hid; rw [hr.out]; exact okDigits_stop t k _ hlt (by simp [okDigit, hn]; omega)
                      have tn : ((bt t (k + 1) : Int) == 95) = true := by simp [hn]
                      clear h95 hdg hk0 hke hn
                      go_wp2
                      go_ret
                      exact ⟨ret_bool hfin.out.symm, rfl⟩
                    · have hnext : Hid (okDigits t (k + 1) = true) := by unfold Hid; simp [okDigits, hok.out, okDigit, h95, hk0, hke, hn]
                      have tn : ((bt t (k + 1) : Int) == 95) = false := by simp; omega
                      clear h95 hdg hk0 hke hn
                      go_wp2
                      go_round
                      case rel => exact ⟨k + 1, by omega, by go_num, hnext⟩
                      case measure => simp [intOf]; omega
              · have hfin : Hid (rnumber t = false) := by unfold Hid; rw [hr.out]; exact okDigits_stop t k _ hlt (by simp [okDigit, h95]; omega)
                have t95 : ((bt t k : Int) == 95) = false := by simp; omega
                have t95n : ((bt t k : Int) != 95) = true := by simp; omega
                rcases (show bt t k < 48 ∨ 57 < bt t k by omega) with hq | hq
                · have tg2 : decide (48 ≤ (bt t k : Int)) = false := by simp; omega
                  clear h95 hdg
                  go_wp2
                  go_ret
                  exact ⟨ret_bool hfin.out.symm, rfl⟩
                · have tg2 : decide (48 ≤ (bt t k : Int)) = true := by simp; omega
                  have tg : decide ((bt t k : Int) ≤ 57) = false := by simp; omega
                  clear h95 hdg
                  go_wp2
                  go_ret
                  exact ⟨ret_bool hfin.out.symm, rfl⟩
          · have e : k = t.size := by omega
            subst e
            have hfin : Hid (rnumber t = true) := hr.out.trans hok.out
            go_wp2
            go_ret
            exact ⟨ret_bool hfin.out.symm, rfl⟩
end Go.Proofs.YtdebjhdafnpfkaaGreatDoor
