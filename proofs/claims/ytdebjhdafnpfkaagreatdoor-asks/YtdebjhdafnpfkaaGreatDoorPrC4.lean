import Derived.Test.YtdebjhdafnpfkaaGreatDoorPrB
namespace Go.Proofs.YtdebjhdafnpfkaaGreatDoor
open Go.ChangeShapes Go.WideShapes Go.ChangeAt Go.RowKit
set_option linter.unusedVariables false
set_option linter.unusedSimpArgs false

theorem take_mayStand (b : Nat) (s : ByteArray) (a : Nat) (w : World) (hs : s.size ≤ 4000) (ha : a ≤ s.size) (h : PC w b s a) :
    Calls Tryz.prog 78 #[.pointer (some ⟨b, 0, none⟩), .func (.func 79) #[] #[]] w fun e w' =>
      e = .returned (.string (s.extract a (scan (okByte) s a))) ∧ PC w' b s (scan (okByte) s a) ∧ Kc b w w' := by
  have hA := h.A
  have h' : Hid (PC w b s a) := h
  clear h
  go_enter Tryz.func78, Tryz.ntmps78
  go_wp2
  go_loopw [] (fun wr => ∃ a' : Nat, Hid (PC wr b s a') ∧ Kc b w wr ∧ Hid (scan (okByte) s a = scan (okByte) s a') ∧ a ≤ a' ∧ a' ≤ s.size) (fun wr => s.size - atOf wr b)
  case atStart => exact ⟨a, h', Kc.refl _ _, rfl, Nat.le_refl _, ha⟩
  case round =>
    clear h' hA
    obtain ⟨a', h1, hk, hsc, ha1, ha'⟩ := hrel
    obtain ⟨hT, hA, hL, hF, hlt⟩ := h1.out
    by_cases hl : a' < s.size
    · have hd : decide (a' = s.size) = false := by simp; omega
      have hbt := bt_in s a' hl
      cases hb : (okByte) (bt s a')
      · have hfin : Hid (scan (okByte) s a = a') := by
          unfold Hid
          rw [hsc.out, scan_stop _ _ _ (fun _ => hb)]
        go_wp2
        go_quiet (first | (go_at_call 53; exact Calls.quiet_of (done_any b s a' _ hs ha' (h1.out.drewN _))) | (go_at_call 79; exact Calls.quiet_of_same (mayStand_any _ _ (bt_lt _ _))))
        go_wp2
        go_quiet (fail)
        go_wp2
        go_ret
        exact ⟨ret_str' (by rw [hfin.out]), by rw [hfin.out]; exact (h1.out.drewN _).drewN _, (hk.drewN _).drewN _⟩
      · have hst : Hid (scan (okByte) s a' = scan (okByte) s (a' + 1)) := scan_step _ _ _ hl hb
        go_wp2
        go_quiet (first | (go_at_call 53; exact Calls.quiet_of (done_any b s a' _ hs ha' (h1.out.drewN _))) | (go_at_call 79; exact Calls.quiet_of_same (mayStand_any _ _ (bt_lt _ _))))
        go_wp2_with fail
        refine (step_any b s a' _ hs hl (h1.out.drewN _)).mono ?_
        rintro e w1 ⟨rfl, h2, hk2⟩
        have h2' : Hid (PC w1 b s (a' + 1)) := h2
        clear h2
        go_wp2
        go_roundw
        case rel => exact ⟨a' + 1, h2', (hk.drewN _).trans hk2, hsc.out.trans hst.out, by omega, by omega⟩
        case measure => rw [h2'.out.atOf, h1.out.atOf]; omega
    · have e1 : a' = s.size := by omega
      have hd : decide (a' = s.size) = true := by simp; omega
      have hfin : Hid (scan (okByte) s a = a') := by
        unfold Hid
        rw [hsc.out, scan_stop _ _ _ (fun h => absurd h hl)]
      have H : Hid (a' = s.size) := e1
      clear e1
      go_wp2
      go_quiet ((go_at_call 53; exact Calls.quiet_of (done_any b s a' _ hs ha' (h1.out.drewN _))))
      go_wp2
      go_quiet (fail)
      go_wp2
      go_ret
      exact ⟨ret_str' (by rw [hfin.out]), by rw [hfin.out]; exact (h1.out.drewN _).drewN _, (hk.drewN _).drewN _⟩
end Go.Proofs.YtdebjhdafnpfkaaGreatDoor
