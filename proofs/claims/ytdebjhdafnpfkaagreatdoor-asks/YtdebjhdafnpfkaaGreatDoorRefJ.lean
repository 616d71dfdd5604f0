import Derived.Test.YtdebjhdafnpfkaaGreatDoorRefI
namespace Go.Proofs.YtdebjhdafnpfkaaGreatDoor
open Go.ChangeShapes Go.WideShapes Go.ChangeAt Go.RowKit
set_option linter.unusedVariables false

set_option maxRecDepth 100000 in
set_option maxHeartbeats 4000000 in
theorem value_step (d nest b : Nat) (s : ByteArray) (it : Value) (hs : s.size ≤ 4000) (hn6 : nest ≤ 6)
    (hV : nest < 6 → ValC d (nest + 1) b s it) : ValC (d + 1) nest b s it := by
  intro x w hinv h
  have hA := h.A
  have hE := h.E
  have hS := h.S
  have hlt := h.lt
  have h' : Hid (RD w b s x it) := h
  have HV : Hid (nest < 6 → ValC d (nest + 1) b s it) := hV
  have hxa := hinv.1
  have Hinv : Hid (Inv s x) := hinv
  clear h hV hinv
  have hrv : Hid (rval s (d + 1) nest x = if x.e ≠ 0 ∨ s.size ≤ x.a then (rno x 3 x.a, V0)
    else if (bt s x.a = 91 ∨ bt s x.a = 123) ∧ 6 ≤ nest then (rno x 5 x.a, V0)
    else if bt s x.a = 34 then rtext s x
    else if bt s x.a = 91 then rlist s (rval s d (nest + 1)) x
    else if bt s x.a = 123 then rgroup s (rval s d (nest + 1)) x
    else rword s x) := rfl
  by_cases hbad : x.e ≠ 0 ∨ s.size ≤ x.a
  · have hfin : Hid (rval s (d + 1) nest x = (rno x 3 x.a, V0)) := by
      unfold Hid
      rw [hrv.out, if_pos hbad]
    by_cases he : x.e = 0
    · have te : ((x.e : Int) != 0) = false := by simp [he]
      have hl : s.size ≤ x.a := by omega
      have td : decide ((x.a : Int) ≥ s.size) = true := by simp; omega
      have td2 : decide (s.size ≤ x.a) = true := by simpa using hl
      clear hbad he
      go_enter Tryz.func89, Tryz.ntmps89
      go_wp2_with fail
      go_quiet (fail)
      go_wp2_with fail
      refine (no_any b s x it 3 x.a _ (h'.out.drewN nq)).mono ?_
      rintro e w4 ⟨rfl, hd4, hk4⟩
      have hd4' : Hid (RD w4 b s (rno x 3 x.a) it) := hd4
      clear hd4
      go_wp2_with fail
      go_ret
      have hkk : Kb b w w4 := ((Kb.refl _ _).drewN nq).trans hk4
      refine ⟨_, rfl, by rw [hfin.out]; exact hd4'.out.alloc _, hkk.alloc hd4'.out.lt _, ?_⟩
      rw [hfin.out]
      exact leaf_new (d := d) 0 0 ⟨#[]⟩ hkk.size
    · have te : ((x.e : Int) != 0) = true := by simpa using he
      clear hbad he
      go_enter Tryz.func89, Tryz.ntmps89
      go_wp2_with fail
      go_quiet (fail)
      go_wp2_with fail
      refine (no_any b s x it 3 x.a _ (h'.out.drewN nq)).mono ?_
      rintro e w4 ⟨rfl, hd4, hk4⟩
      have hd4' : Hid (RD w4 b s (rno x 3 x.a) it) := hd4
      clear hd4
      go_wp2_with fail
      go_ret
      have hkk : Kb b w w4 := ((Kb.refl _ _).drewN nq).trans hk4
      refine ⟨_, rfl, by rw [hfin.out]; exact hd4'.out.alloc _, hkk.alloc hd4'.out.lt _, ?_⟩
      rw [hfin.out]
      exact leaf_new (d := d) 0 0 ⟨#[]⟩ hkk.size
  · have he : x.e = 0 := Classical.byContradiction fun e => hbad (.inl e)
    have hl : x.a < s.size := by omega
    have te : ((x.e : Int) != 0) = false := by simp [he]
    have td : decide ((x.a : Int) ≥ s.size) = false := by simp; omega
    have td2 : decide (s.size ≤ x.a) = false := by simp; omega
    have hbt := bt_in s x.a hl
    have hb256 := bt_lt s x.a
    have hrv2 : Hid (rval s (d + 1) nest x = if (bt s x.a = 91 ∨ bt s x.a = 123) ∧ 6 ≤ nest then (rno x 5 x.a, V0)
      else if bt s x.a = 34 then rtext s x
      else if bt s x.a = 91 then rlist s (rval s d (nest + 1)) x
      else if bt s x.a = 123 then rgroup s (rval s d (nest + 1)) x
      else rword s x) := by
      unfold Hid
      rw [hrv.out, if_neg hbad]
    clear hrv hbad he
    by_cases hdeep : (bt s x.a = 91 ∨ bt s x.a = 123) ∧ 6 ≤ nest
    · have hfin : Hid (rval s (d + 1) nest x = (rno x 5 x.a, V0)) := by
        unfold Hid
        rw [hrv2.out, if_pos hdeep]
      obtain ⟨hc, h6⟩ := hdeep
      have t6 : decide ((nest : Int) ≥ 6) = true := by simp; omega
      rcases hc with hc | hc
      · have t91 : ((bt s x.a : Int) == 91) = true := by simp [hc]
        clear hc
        go_enter Tryz.func89, Tryz.ntmps89
        go_wp2_with fail
        go_quiet (fail)
        revert nq
        intro na
        go_wp2_with fail
        go_quiet (fail)
        go_wp2_with fail
        refine (no_any b s x it 5 x.a _ (h'.out.drewN (na + nq))).mono ?_
        rintro e w4 ⟨rfl, hd4, hk4⟩
        have hd4' : Hid (RD w4 b s (rno x 5 x.a) it) := hd4
        clear hd4
        go_wp2_with fail
        go_ret
        have hkk : Kb b w w4 := ((Kb.refl _ _).drewN (na + nq)).trans hk4
        refine ⟨_, rfl, by rw [hfin.out]; exact hd4'.out.alloc _, hkk.alloc hd4'.out.lt _, ?_⟩
        rw [hfin.out]
        exact leaf_new (d := d) 0 0 ⟨#[]⟩ hkk.size
      · have t91 : ((bt s x.a : Int) == 91) = false := by simp; omega
        have t123 : ((bt s x.a : Int) == 123) = true := by simp [hc]
        clear hc
        go_enter Tryz.func89, Tryz.ntmps89
        go_wp2_with fail
        go_quiet (fail)
        revert nq
        intro na
        go_wp2_with fail
        go_quiet (fail)
        go_wp2_with fail
        refine (no_any b s x it 5 x.a _ (h'.out.drewN (na + nq))).mono ?_
        rintro e w4 ⟨rfl, hd4, hk4⟩
        have hd4' : Hid (RD w4 b s (rno x 5 x.a) it) := hd4
        clear hd4
        go_wp2_with fail
        go_ret
        have hkk : Kb b w w4 := ((Kb.refl _ _).drewN (na + nq)).trans hk4
        refine ⟨_, rfl, by rw [hfin.out]; exact hd4'.out.alloc _, hkk.alloc hd4'.out.lt _, ?_⟩
        rw [hfin.out]
        exact leaf_new (d := d) 0 0 ⟨#[]⟩ hkk.size
    · by_cases h34 : bt s x.a = 34
      · have t34 : ((bt s x.a : Int) == 34) = true := by simp [h34]
        have t91 : ((bt s x.a : Int) == 91) = false := by simp; omega
        have t123 : ((bt s x.a : Int) == 123) = false := by simp; omega
        have hfin : Hid (rval s (d + 1) nest x = rtext s x) := by
          unfold Hid
          rw [hrv2.out, if_neg hdeep, if_pos h34]
        clear h34 hdeep
        go_enter Tryz.func89, Tryz.ntmps89
        go_wp2_with fail
        go_quiet (fail)
        revert nq
        intro na
        go_wp2_with fail
        go_quiet (fail)
        go_wp2_with fail
        refine (text_any b s x it _ hs (by omega) (h'.out.drewN _)).mono ?_
        rintro e w4 ⟨q, rfl, hd4, hk4, hr4⟩
        have HH : Hid _ := And.intro hd4 hr4
        clear hd4 hr4
        go_wp2_with fail
        go_ret
        have hkk : Kb b w w4 := ((Kb.refl _ _).drewN (na + nq)).trans hk4
        refine ⟨_, rfl, by rw [hfin.out]; exact HH.out.1, hkk, ?_⟩
        rw [hfin.out]
        exact HH.out.2 d
      · have t34 : ((bt s x.a : Int) == 34) = false := by simp; omega
        by_cases h91 : bt s x.a = 91
        · have t91 : ((bt s x.a : Int) == 91) = true := by simp [h91]
          have h6 : nest < 6 := by omega
          have t6 : decide ((nest : Int) ≥ 6) = false := by simp; omega
          have hfin : Hid (rval s (d + 1) nest x = rlist s (rval s d (nest + 1)) x) := by
            unfold Hid
            rw [hrv2.out, if_neg hdeep, if_neg h34, if_pos h91]
          clear h34 hdeep h91
          go_enter Tryz.func89, Tryz.ntmps89
          go_wp2_with fail
          go_quiet (fail)
          revert nq
          intro na
          go_wp2_with fail
          go_quiet (fail)
          go_wp2_with fail
          refine (list_any d nest b s x it _ hs hl hn6 (HV.out h6) (h'.out.drewN _)).mono ?_
          rintro e w4 ⟨q, rfl, hd4, hk4, hr4⟩
          have HH : Hid _ := And.intro hd4 hr4
          clear hd4 hr4
          go_wp2_with fail
          go_ret
          have hkk : Kb b w w4 := ((Kb.refl _ _).drewN (na + nq)).trans hk4
          refine ⟨_, rfl, by rw [hfin.out]; exact HH.out.1, hkk, ?_⟩
          rw [hfin.out]
          exact HH.out.2
        · have t91 : ((bt s x.a : Int) == 91) = false := by simp; omega
          by_cases h123 : bt s x.a = 123
          · have t123 : ((bt s x.a : Int) == 123) = true := by simp [h123]
            have h6 : nest < 6 := by omega
            have t6 : decide ((nest : Int) ≥ 6) = false := by simp; omega
            have hfin : Hid (rval s (d + 1) nest x = rgroup s (rval s d (nest + 1)) x) := by
              unfold Hid
              rw [hrv2.out, if_neg hdeep, if_neg h34, if_neg h91, if_pos h123]
            clear h34 hdeep h91 h123
            go_enter Tryz.func89, Tryz.ntmps89
            go_wp2_with fail
            go_quiet (fail)
            revert nq
            intro na
            go_wp2_with fail
            go_quiet (fail)
            go_wp2_with fail
            refine (group_any d nest b s x it _ hs hl hn6 (HV.out h6) (h'.out.drewN _)).mono ?_
            rintro e w4 ⟨q, rfl, hd4, hk4, hr4⟩
            have HH : Hid _ := And.intro hd4 hr4
            clear hd4 hr4
            go_wp2_with fail
            go_ret
            have hkk : Kb b w w4 := ((Kb.refl _ _).drewN (na + nq)).trans hk4
            refine ⟨_, rfl, by rw [hfin.out]; exact HH.out.1, hkk, ?_⟩
            rw [hfin.out]
            exact HH.out.2
          · have t123 : ((bt s x.a : Int) == 123) = false := by simp; omega
            have hfin : Hid (rval s (d + 1) nest x = rword s x) := by
              unfold Hid
              rw [hrv2.out, if_neg hdeep, if_neg h34, if_neg h91, if_neg h123]
            clear h34 hdeep h91 h123
            go_enter Tryz.func89, Tryz.ntmps89
            go_wp2_with fail
            go_quiet (fail)
            revert nq
            intro na
            go_wp2_with fail
            go_quiet (fail)
            go_wp2_with fail
            refine (word_any b s x it _ hs (by omega) (h'.out.drewN _)).mono ?_
            rintro e w4 ⟨q, rfl, hd4, hk4, hr4⟩
            have HH : Hid _ := And.intro hd4 hr4
            clear hd4 hr4
            go_wp2_with fail
            go_ret
            have hkk : Kb b w w4 := ((Kb.refl _ _).drewN (na + nq)).trans hk4
            refine ⟨_, rfl, by rw [hfin.out]; exact HH.out.1, hkk, ?_⟩
            rw [hfin.out]
            exact HH.out.2 d

/-- Within no more than six others. -/
theorem value_all (b : Nat) (s : ByteArray) (it : Value) (hs : s.size ≤ 4000) : ∀ k, k ≤ 6 → ValC (k + 1) (6 - k) b s it
  | 0, _ => value_step 0 6 b s it hs (Nat.le_refl _) (fun h => absurd h (by omega))
  | k + 1, hk => value_step (k + 1) (6 - (k + 1)) b s it hs (by omega) (fun _ => by
      have := value_all b s it hs k (by omega)
      rw [show 6 - (k + 1) + 1 = 6 - k by omega]
      exact this)
theorem value_any (b : Nat) (s : ByteArray) (it : Value) (hs : s.size ≤ 4000) : ValC 7 0 b s it := value_all b s it hs 6 (Nat.le_refl _)
end Go.Proofs.YtdebjhdafnpfkaaGreatDoor
