import Derived.Test.YtdebjhdafnpfkaaGreatDoorPWorld
namespace Go.Proofs.YtdebjhdafnpfkaaGreatDoor
open Go.ChangeShapes Go.WideShapes Go.ChangeAt Go.RowKit
set_option linter.unusedVariables false

theorem ret_bool' {a b : Bool} (h : a = b) : Ending.returned (.bool a) = .returned (.bool b) := by rw [h]
theorem ret_u8 {a b : Int} (h : a = b) : Ending.returned (.int .u8 a) = .returned (.int .u8 b) := by rw [h]

theorem done_any (b : Nat) (s : ByteArray) (a : Nat) (w : World) (hs : s.size ≤ 4000) (ha : a ≤ s.size) (h : PC w b s a) :
    Calls Tryz.prog 53 #[.pointer (some ⟨b, 0, none⟩)] w fun e w' => e = .returned (.bool (decide (a = s.size))) ∧ ∃ n, w' = w.drewN n := by
  obtain ⟨hT, hA, hL, hF, hlt⟩ := h
  go_enter Tryz.func53, Tryz.ntmps53
  go_wp2
  go_quiet (fail)
  go_wp2
  go_ret
  exact ⟨ret_bool' (by rw [Bool.eq_iff_iff]; simp; omega), _, rfl⟩

/-- The byte that comes, 0 at the end. -/
theorem peek_any (b : Nat) (s : ByteArray) (a : Nat) (w : World) (hs : s.size ≤ 4000) (ha : a ≤ s.size) (h : PC w b s a) :
    Calls Tryz.prog 83 #[.pointer (some ⟨b, 0, none⟩)] w fun e w' => e = .returned (.int .u8 (bt s a)) ∧ ∃ n, w' = w.drewN n := by
  have h' : Hid (PC w b s a) := h
  clear h
  by_cases he : a = s.size
  · have hd : decide (a = s.size) = true := by simpa using he
    have hb : Hid (bt s a = 0) := by unfold Hid bt; rw [dif_neg (by omega)]
    go_enter Tryz.func83, Tryz.ntmps83
    go_wp2_with fail
    refine (done_any b s a _ hs ha h'.out).mono ?_
    rintro e w1 ⟨rfl, n, rfl⟩
    go_wp2_with fail
    go_ret
    exact ⟨ret_u8 (by rw [hb.out]; rfl), _, rfl⟩
  · have hd : decide (a = s.size) = false := by simpa using he
    have hl : a < s.size := by omega
    have hb : Hid ((s[a].toNat : Int) = bt s a) := by unfold Hid; rw [bt_in s a hl]
    obtain ⟨hT, hA, hL, hF, hlt⟩ := h'.out
    clear he
    go_enter Tryz.func83, Tryz.ntmps83
    go_wp2_with fail
    refine (done_any b s a _ hs ha h'.out).mono ?_
    rintro e w1 ⟨rfl, n, rfl⟩
    go_wp2_with fail
    go_quiet (fail)
    go_wp2
    go_ret
    exact ⟨ret_u8 hb.out, _, World.drewN_drewN _ _ _⟩

theorem step_any (b : Nat) (s : ByteArray) (a : Nat) (w : World) (hs : s.size ≤ 4000) (ha : a < s.size) (h : PC w b s a) :
    Calls Tryz.prog 84 #[.pointer (some ⟨b, 0, none⟩)] w fun e w' => e = .returned (.tuple #[]) ∧ PC w' b s (a + 1) ∧ Kc b w w' := by
  have h' : Hid (PC w b s a) := h
  have hl1 := plineAt_le s a
  obtain ⟨hT, hA, hL, hF, hlt⟩ := h
  by_cases h10 : bt s a = 10
  · have t : ((s[a].toNat : Int) == 10) = true := by rw [bt_in s a ha]; simp [h10]
    have H : Hid (bt s a = 10) := h10
    clear h10
    go_enter Tryz.func84, Tryz.ntmps84
    go_wp2
    go_quiet (fail)
    go_wp2
    go_returns
    exact ⟨rfl, (h'.out.drewN _).set2 H.out, (((Kc.refl _ _).drewN _).set _ _ (.inr rfl)).set _ _ (.inl rfl)⟩
  · have t : ((s[a].toNat : Int) == 10) = false := by rw [bt_in s a ha]; simp; omega
    have H : Hid (bt s a ≠ 10) := h10
    clear h10
    go_enter Tryz.func84, Tryz.ntmps84
    go_wp2
    go_quiet (fail)
    go_wp2
    go_returns
    exact ⟨rfl, (h'.out.drewN _).set1 H.out, ((Kc.refl _ _).drewN _).set _ _ (.inl rfl)⟩

theorem failAt_any (b : Nat) (k l : Nat) (w : World) (hb : b < w.heap.size) :
    Calls Tryz.prog 50 #[.int .i64 k, .int .i64 l] w fun e w' => ∃ q, Pan b w e w' k l q := by
  go_enter Tryz.func50, Tryz.ntmps50
  go_wp2
  refine ⟨rfl, w.heap.size, ⟨rfl, Nat.le_refl _, by simp, by simp, by simp, (Kb.refl _ _).alloc hb _⟩⟩

theorem fail_any (b : Nat) (s : ByteArray) (a : Nat) (k : Nat) (w : World) (h : PC w b s a) :
    Calls Tryz.prog 80 #[.pointer (some ⟨b, 0, none⟩), .int .i64 k] w fun e w' => ∃ q, Pan b w e w' k (lineAt s a) q := by
  have h' : Hid (PC w b s a) := h
  obtain ⟨hT, hA, hL, hF, hlt⟩ := h
  go_enter Tryz.func80, Tryz.ntmps80
  go_wp2_with fail
  refine (failAt_any b k (lineAt s a) _ hlt).mono ?_
  rintro e w1 ⟨q, hq⟩
  have he := hq.e
  subst he
  exact ⟨rfl, q, hq⟩
end Go.Proofs.YtdebjhdafnpfkaaGreatDoor
