import Derived.Test.YtdebjhdafnpfkaaGreatDoorRefB
namespace Go.Proofs.YtdebjhdafnpfkaaGreatDoor
open Go.ChangeShapes Go.WideShapes Go.ChangeAt Go.RowKit
set_option linter.unusedVariables false

theorem ret_str {a b : ByteArray} (h : a = b) : Ending.returned (.string a) = .returned (.string b) := by rw [h]

theorem run_any (b : Nat) (s : ByteArray) (x : St) (it : Value) (w : World) (hs : s.size ≤ 4000) (ha : x.a ≤ s.size)
    (h : RD w b s x it) :
    Calls Tryz.prog 124 #[.pointer (some ⟨b, 0, none⟩)] w fun e w' => e = .returned (.string (rrun s x).2) ∧ RD w' b s (rrun s x).1 it ∧ Kb b w w' := by
  obtain ⟨a, e, p⟩ := x
  simp only at ha
  have hA := h.A
  have h' : Hid (RD w b s ⟨a, e, p⟩ it) := h
  clear h
  go_enter Tryz.func124, Tryz.ntmps124
  go_wp2
  go_loopw [] (fun wr => ∃ a' : Nat, Hid (RD wr b s ⟨a', e, p⟩ it) ∧ Kb b w wr ∧ Hid (scan letterB s a = scan letterB s a') ∧ a ≤ a' ∧ a' ≤ s.size) (fun wr => s.size - atOf wr b)
  case atStart => exact ⟨a, h', Kb.refl _ _, rfl, Nat.le_refl _, ha⟩
  case round =>
    clear h' hA
    obtain ⟨a', h1, hk, hsc, ha1, ha'⟩ := hrel
    obtain ⟨hS, hA, hE, hP, hI, hF, hlt⟩ := h1.out
    simp only at hA hE hP
    by_cases hl : a' < s.size
    · have hd : decide (a' < s.size) = true := by simpa using hl
      have hbt := bt_in s a' hl
      cases hb : letterB (bt s a')
      · have hfin : Hid (rrun s ⟨a, e, p⟩ = (⟨a', e, p⟩, s.extract a a')) := by
          unfold Hid rrun
          simp only
          rw [hsc.out, scan_stop _ _ _ (fun _ => hb)]
        go_wp2
        go_quiet (fail)
        go_wp2
        go_quiet ((go_at_call 139; exact (letter_any _ _ (bt_lt _ _)).mono (fun _ _ h => ⟨h.1, _, h.2⟩)))
        go_wp2
        go_quiet (fail)
        go_wp2
        go_ret
        exact ⟨ret_str (by rw [hfin.out]), by rw [hfin.out]; exact (h1.out.drewN _).drewN _, (hk.drewN _).drewN _⟩
      · have hst : Hid (scan letterB s a' = scan letterB s (a' + 1)) := scan_step _ _ _ hl hb
        go_wp2
        go_quiet (fail)
        go_wp2
        go_quiet ((go_at_call 139; exact (letter_any _ _ (bt_lt _ _)).mono (fun _ _ h => ⟨h.1, _, h.2⟩)))
        go_wp2
        go_roundw
        case rel => exact ⟨a' + 1, h1.out.step _, (hk.drewN _).set _ _, hsc.out.trans hst.out, by omega, by omega⟩
        case measure => rw [(h1.out.step _).atOf, h1.out.atOf]; simp only; omega
    · have hd : decide (a' < s.size) = false := by simpa using hl
      have hfin : Hid (rrun s ⟨a, e, p⟩ = (⟨a', e, p⟩, s.extract a a')) := by
        unfold Hid rrun
        simp only
        rw [hsc.out, scan_stop _ _ _ (fun h => absurd h hl)]
      go_wp2
      go_quiet (fail)
      go_wp2
      go_quiet (fail)
      go_wp2
      go_ret
      exact ⟨ret_str (by rw [hfin.out]), by rw [hfin.out]; exact (h1.out.drewN _).drewN _, (hk.drewN _).drewN _⟩

theorem rno_a (x : St) (k q : Nat) : (rno x k q).a = x.a := by unfold rno; split <;> rfl

theorem name_any (b : Nat) (s : ByteArray) (x : St) (it : Value) (w : World) (hs : s.size ≤ 4000) (ha : x.a ≤ s.size)
    (h : RD w b s x it) :
    Calls Tryz.prog 106 #[.pointer (some ⟨b, 0, none⟩)] w fun e w' => e = .returned (.string (rname s x).2) ∧ RD w' b s (rname s x).1 it ∧ Kb b w w' := by
  have hA := h.A
  have h' : Hid (RD w b s x it) := h
  clear h
  go_enter Tryz.func106, Tryz.ntmps106
  go_wp2_with fail
  refine (run_any b s x it _ hs ha h'.out).mono ?_
  rintro e w1 ⟨rfl, hd1, hk1⟩
  have hd1' : Hid (RD w1 b s (rrun s x).1 it) := hd1
  clear hd1
  have hn : Hid (rname s x = (if 20 < (rrun s x).2.size then rno (if (rrun s x).2.size = 0 then rno (rrun s x).1 3 x.a else (rrun s x).1) 4 x.a else (if (rrun s x).2.size = 0 then rno (rrun s x).1 3 x.a else (rrun s x).1), (rrun s x).2)) := rfl
  generalize (rrun s x).2 = t at *
  generalize (rrun s x).1 = y at *
  by_cases h0 : t.size = 0
  · have t0 : ((t.size : Int) == 0) = true := by simpa using h0
    have t1 : decide ((t.size : Int) > 20) = false := by simp; omega
    go_wp2_with fail
    refine (no_any b s y it 3 x.a _ hd1'.out).mono ?_
    rintro e w2 ⟨rfl, hd2, hk2⟩
    have hd2' : Hid (RD w2 b s (rno y 3 x.a) it) := hd2
    clear hd2
    go_wp2_with fail
    go_ret
    rw [hn.out, if_neg (by omega), if_pos h0]
    exact ⟨rfl, hd2'.out, hk1.trans hk2⟩
  · have t0 : ((t.size : Int) == 0) = false := by simpa using h0
    by_cases h2 : 20 < t.size
    · have t1 : decide ((t.size : Int) > 20) = true := by simp; omega
      go_wp2_with fail
      refine (no_any b s y it 4 x.a _ hd1'.out).mono ?_
      rintro e w2 ⟨rfl, hd2, hk2⟩
      have hd2' : Hid (RD w2 b s (rno y 4 x.a) it) := hd2
      clear hd2
      go_wp2_with fail
      go_ret
      rw [hn.out, if_pos h2, if_neg h0]
      exact ⟨rfl, hd2'.out, hk1.trans hk2⟩
    · have t1 : decide ((t.size : Int) > 20) = false := by simp; omega
      go_wp2_with fail
      go_ret
      rw [hn.out, if_neg h2, if_neg h0]
      exact ⟨rfl, hd1'.out, hk1⟩
end Go.Proofs.YtdebjhdafnpfkaaGreatDoor
