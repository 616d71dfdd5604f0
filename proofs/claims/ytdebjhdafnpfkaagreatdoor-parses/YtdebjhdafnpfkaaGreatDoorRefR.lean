import Derived.Test.YtdebjhdafnpfkaaGreatDoorRefC
import Derived.Test.YtdebjhdafnpfkaaGreatDoorPure2
namespace Go.Proofs.YtdebjhdafnpfkaaGreatDoor
open Go.ChangeShapes Go.WideShapes Go.ChangeAt Go.RowKit
set_option linter.unusedVariables false

theorem lineAt_le (s : ByteArray) : ∀ i, lineAt s i ≤ i + 1
  | 0 => Nat.le_refl _
  | i + 1 => by
    have := lineAt_le s i
    unfold lineAt
    split <;> omega

set_option maxHeartbeats 1000000 in
theorem line_no (b : Nat) (s : ByteArray) (x : St) (it : Value) (w : World) (h : RD w b s x it) (hp : x.e = 1 ∨ x.e = 0 ∨ (x.p ≤ s.size ∧ s.size ≤ 4000)) :
    Calls Tryz.prog 27 #[.pointer (some ⟨b, 0, none⟩)] w fun e w' => e = .returned (.int .i64 (rlineNo s x)) ∧ ∃ n, w' = w.drewN n := by
  obtain ⟨a, e, p⟩ := x
  obtain ⟨hS, hA, hE, hP, hI, hF, hlt⟩ := h
  simp only at hA hE hP hp
  by_cases h1 : e = 1
  · have t1 : ((e : Int) == 1) = true := by simp [h1]
    have hfin : Hid (rlineNo s ⟨a, e, p⟩ = 0) := by unfold Hid rlineNo; simp [h1]
    clear h1
    go_enter Tryz.func27, Tryz.ntmps27
    go_wp2_with fail
    go_ret
    exact ⟨by rw [hfin.out]; rfl, 0, rfl⟩
  · have t1 : ((e : Int) == 1) = false := by simp; omega
    by_cases h0 : e = 0
    · have t0 : ((e : Int) == 0) = true := by simp [h0]
      have hfin : Hid (rlineNo s ⟨a, e, p⟩ = 0) := by unfold Hid rlineNo; simp [h0]
      clear h1 h0
      go_enter Tryz.func27, Tryz.ntmps27
      go_wp2_with fail
      go_ret
      exact ⟨by rw [hfin.out]; rfl, 0, rfl⟩
    · have t0 : ((e : Int) == 0) = false := by simp; omega
      have hps : p ≤ s.size ∧ s.size ≤ 4000 := by omega
      obtain ⟨hp1, hp2⟩ := hps
      have hfin : Hid (rlineNo s ⟨a, e, p⟩ = lineAt s p) := by unfold Hid rlineNo; simp [h0, h1]
      clear h1 h0 hp
      go_enter Tryz.func27, Tryz.ntmps27
      go_wp2_with fail
      go_loop [3, 4] (fun n i => ∃ k : Nat, k ≤ p ∧ i = .int .i64 k ∧ n = .int .i64 (lineAt s k)) (fun _ i => p - (intOf i).toNat)
      case atStart => exact ⟨0, Nat.zero_le _, rfl, rfl⟩
      case round =>
        obtain ⟨k, hk, rfl, rfl⟩ := hrel
        have hle := lineAt_le s k
        by_cases hkp : k < p
        · have hl : k < s.size := by omega
          have td : decide (k < p) = true := by simpa using hkp
          have hbt := bt_in s k hl
          by_cases h10 : bt s k = 10
          · have tt : ((bt s k : Int) == 10) = true := by simp [h10]
            have hnx : Hid (lineAt s (k + 1) = lineAt s k + 1) := by unfold Hid; rw [lineAt, if_pos h10]
            clear h10
            go_wp2_with fail
            go_round
            case rel => exact ⟨k + 1, by omega, by go_num, by rw [hnx.out]; rfl⟩
            case measure => simp [intOf]; omega
          · have tt : ((bt s k : Int) == 10) = false := by simp; omega
            have hnx : Hid (lineAt s (k + 1) = lineAt s k) := by unfold Hid; rw [lineAt, if_neg h10]
            clear h10
            go_wp2_with fail
            go_round
            case rel => exact ⟨k + 1, by omega, by go_num, by rw [hnx.out]⟩
            case measure => simp [intOf]; omega
        · have td : decide (k < p) = false := by simpa using hkp
          have e : k = p := by omega
          subst e
          go_wp2_with fail
          go_ret
          exact ⟨by rw [hfin.out]; rfl, 0, rfl⟩
end Go.Proofs.YtdebjhdafnpfkaaGreatDoor
