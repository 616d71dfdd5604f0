import Derived.Test.YtdebjhdafnpfkaaGreatDoorRefA
namespace Go.Proofs.YtdebjhdafnpfkaaGreatDoor
open Go.ChangeShapes Go.WideShapes Go.ChangeAt Go.RowKit
set_option linter.unusedVariables false

theorem must_any (b : Nat) (s : ByteArray) (x : St) (it : Value) (c : Nat) (w : World) (hs : s.size ≤ 4000) (ha : x.a ≤ 8000)
    (h : RD w b s x it) :
    Calls Tryz.prog 33 #[.pointer (some ⟨b, 0, none⟩), .int .u8 c] w fun e w' => e = .returned (.tuple #[]) ∧ RD w' b s (rmust s x c) it ∧ Kb b w w' := by
  have h' : Hid (RD w b s x it) := h
  have hA := h.A
  have hF := h.F
  have hlt := h.lt
  clear h
  cases hr : ris s x c
  · go_enter Tryz.func33, Tryz.ntmps33
    go_wp2_with fail
    refine (is_any b s x it c _ hs ha h'.out).mono ?_
    rintro e w1 ⟨rfl, n, rfl⟩
    go_wp2_with fail
    refine (no_any b s x it 3 x.a _ (h'.out.drewN n)).mono ?_
    rintro e w1 ⟨rfl, hd, hk⟩
    go_wp2_with fail
    go_returns
    refine ⟨rfl, ?_, ((Kb.refl _ _).drewN n).trans hk⟩
    simpa [rmust, hr] using hd
  · go_enter Tryz.func33, Tryz.ntmps33
    go_wp2_with fail
    refine (is_any b s x it c _ hs ha h'.out).mono ?_
    rintro e w1 ⟨rfl, n, rfl⟩
    go_wp2_with fail
    go_returns
    refine ⟨rfl, ?_, ((Kb.refl _ _).drewN n).set _ _⟩
    have := (h'.out.drewN n).setA (x.a + 1)
    simpa [rmust, hr] using this

theorem letter_any (c : Nat) (w : World) (hc : c < 256) :
    Calls Tryz.prog 139 #[.int .u8 c] w fun e w' => e = .returned (.bool (letterB c)) ∧ w' = w := by
  go_enter Tryz.func139, Tryz.ntmps139
  go_wp2
  all_goals go_ret
  all_goals exact ⟨ret_bool (Bool.eq_iff_iff.2 (by simp only [letterB, decide_eq_true_eq, Bool.or_eq_true, beq_iff_eq, true_iff]; omega)), rfl⟩

theorem blanks_any (b : Nat) (s : ByteArray) (x : St) (it : Value) (l : Bool) (w : World) (hs : s.size ≤ 4000) (ha : x.a ≤ 8000)
    (h : RD w b s x it) :
    Calls Tryz.prog 55 #[.pointer (some ⟨b, 0, none⟩), .bool l] w fun e w' => e = .returned (.tuple #[]) ∧ RD w' b s (rblanks s x l) it ∧ Kb b w w' := by
  obtain ⟨a, e, p⟩ := x
  simp only at ha
  have h' : Hid (RD w b s ⟨a, e, p⟩ it) := h
  clear h
  go_enter Tryz.func55, Tryz.ntmps55
  go_wp2
  go_loopw [] (fun wr => ∃ a' : Nat, Hid (RD wr b s ⟨a', e, p⟩ it) ∧ Kb b w wr ∧ Hid (scan (blankB l) s a = scan (blankB l) s a') ∧ a' ≤ 8000) (fun wr => s.size - atOf wr b)
  case atStart => exact ⟨a, h', Kb.refl _ _, rfl, ha⟩
  case round =>
    clear h'
    obtain ⟨a', h1, hk, hsc, ha'⟩ := hrel
    obtain ⟨hS, hA, hE, hP, hI, hF, hlt⟩ := h1.out
    simp only at hA hE hP
    by_cases hl : a' < s.size
    · have hd : decide (a' < s.size) = true := by simpa using hl
      by_cases hb : blankB l (bt s a') = true
      · have hst : Hid (scan (blankB l) s a' = scan (blankB l) s (a' + 1)) := scan_step _ _ _ hl hb
        by_cases h32 : bt s a' = 32
        · have t1 : ((s[a'].toNat : Int) == 32) = true := by rw [bt_in s a' hl]; simp [h32]
          clear h32 hb
          · go_wp2
            go_quiet (fail)
            go_wp2
            go_roundw
            case rel => exact ⟨a' + 1, h1.out.step _, (hk.drewN _).set _ _, hsc.out.trans hst.out, by omega⟩
            case measure => rw [(h1.out.step _).atOf, h1.out.atOf]; simp only; omega
        · have t1 : ((s[a'].toNat : Int) == 32) = false := by rw [bt_in s a' hl]; simp; omega
          by_cases h9 : bt s a' = 9
          · have t2 : ((s[a'].toNat : Int) == 9) = true := by rw [bt_in s a' hl]; simp [h9]
            clear h32 hb h9
            go_wp2
            go_quiet (fail)
            go_wp2
            go_roundw
            case rel => exact ⟨a' + 1, h1.out.step _, (hk.drewN _).set _ _, hsc.out.trans hst.out, by omega⟩
            case measure => rw [(h1.out.step _).atOf, h1.out.atOf]; simp only; omega
          · have t2 : ((s[a'].toNat : Int) == 9) = false := by rw [bt_in s a' hl]; simp; omega
            have hb2 : l = true ∧ bt s a' = 10 := by
              simp only [blankB, decide_eq_true_eq] at hb
              rcases hb with hq | hq | hq
              · exact absurd hq h32
              · exact absurd hq h9
              · exact hq
            obtain ⟨rfl, h10⟩ := hb2
            have t3 : ((s[a'].toNat : Int) == 10) = true := by rw [bt_in s a' hl]; simp [h10]
            clear h32 hb h9 h10
            go_wp2
            go_quiet (fail)
            go_wp2
            go_roundw
            case rel => exact ⟨a' + 1, h1.out.step _, (hk.drewN _).set _ _, hsc.out.trans hst.out, by omega⟩
            case measure => rw [(h1.out.step _).atOf, h1.out.atOf]; simp only; omega
      · have hfin : Hid (RD wr b s (rblanks s ⟨a, e, p⟩ l) it) := by
          have e1 : rblanks s ⟨a, e, p⟩ l = ⟨a', e, p⟩ := by
            unfold rblanks
            rw [hsc.out, scan_stop _ _ _ (fun _ => by simpa using hb)]
          rw [e1]
          exact h1.out
        have h32 : ¬ bt s a' = 32 := by intro e; simp [blankB, e] at hb
        have h9 : ¬ bt s a' = 9 := by intro e; simp [blankB, e] at hb
        have t1 : ((s[a'].toNat : Int) == 32) = false := by rw [bt_in s a' hl]; simp; omega
        have t2 : ((s[a'].toNat : Int) == 9) = false := by rw [bt_in s a' hl]; simp; omega
        cases l
        · clear h32 h9 hb
          · go_wp2
            go_quiet (fail)
            go_wp2
            go_returns
            exact ⟨rfl, hfin.out.drewN _, hk.drewN _⟩
        · have h10 : ¬ bt s a' = 10 := by intro e; simp [blankB, e] at hb
          have t3 : ((s[a'].toNat : Int) == 10) = false := by rw [bt_in s a' hl]; simp; omega
          clear h32 h9 hb h10
          · go_wp2
            go_quiet (fail)
            go_wp2
            go_returns
            exact ⟨rfl, hfin.out.drewN _, hk.drewN _⟩
    · have hd : decide (a' < s.size) = false := by simpa using hl
      have hfin : Hid (RD wr b s (rblanks s ⟨a, e, p⟩ l) it) := by
        have e1 : rblanks s ⟨a, e, p⟩ l = ⟨a', e, p⟩ := by
          unfold rblanks
          rw [hsc.out, scan_stop _ _ _ (fun h => absurd h hl)]
        rw [e1]
        exact h1.out
      · go_wp2
        go_quiet (fail)
        go_wp2
        go_returns
        exact ⟨rfl, hfin.out.drewN _, hk.drewN _⟩

end Go.Proofs.YtdebjhdafnpfkaaGreatDoor
