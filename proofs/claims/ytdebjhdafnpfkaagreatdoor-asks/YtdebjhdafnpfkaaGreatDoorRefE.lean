import Derived.Test.YtdebjhdafnpfkaaGreatDoorRefC
import Derived.Test.YtdebjhdafnpfkaaGreatDoorWorld2
namespace Go.Proofs.YtdebjhdafnpfkaaGreatDoor
open Go.ChangeShapes Go.WideShapes Go.ChangeAt Go.RowKit
set_option linter.unusedVariables false

theorem info_string : (Tryz.prog.info? 9).map (fun i => (i.zero, i.size, i.bytes)) = some (some (.string ⟨#[]⟩), 1, 16) := by kernel_rfl

theorem ris_lt {s : ByteArray} {x : St} {c : Nat} (h : ris s x c = true) : x.a < s.size := by
  simp only [ris, decide_eq_true_eq] at h
  exact h.2.1
theorem rname_a (s : ByteArray) (x : St) : (rname s x).1.a = scan letterB s x.a := by
  simp only [rname]
  split <;> split <;> simp [rno_a, rrun]
theorem rname_ge (s : ByteArray) (x : St) : x.a ≤ (rname s x).1.a := by rw [rname_a]; exact scan_ge _ _ _

theorem owns_drewN {w : World} {base : Nat} {e : TypeId} {v : Value} {n : Nat} {xs : List Value} (h : w.ownsRow base e 1 v n xs) (k : Nat) : (w.drewN k).ownsRow base e 1 v n xs := by
  induction k with
  | zero => exact h
  | succ k ih => exact ih

set_option maxRecDepth 100000 in
theorem path_any (b : Nat) (s : ByteArray) (x : St) (it : Value) (w : World) (hs : s.size ≤ 4000) (ha : x.a ≤ s.size)
    (h : RD w b s x it) :
    Calls Tryz.prog 87 #[.pointer (some ⟨b, 0, none⟩)] w fun e w' => ∃ lv, e = .returned lv ∧ RD w' b s (rpath s x).1 it ∧ Kb b w w' ∧
      RowIn w' w.heap.size w'.heap.size 9 lv ((rpath s x).2.map .string) := by
  obtain ⟨i0, hi, hz0, hz1, hz2⟩ := info_parts info_string
  have hA := h.A
  have hlt := h.lt
  have h' : Hid (RD w b s x it) := h
  clear h
  go_enter Tryz.func87, Tryz.ntmps87
  go_wp2_with fail
  go_loopw [4] (fun v wr => ∃ (y : St) (l : List ByteArray) (n : Nat), Hid (RD wr b s y it) ∧ Kb b w wr ∧ Hid (wr.ownsRow w.heap.size 9 1 v l.length (l.map .string)) ∧
      Hid (rpathLoop s (s.size + 1 - x.a) x [] = rpathLoop s (n + 1) y l) ∧ y.a ≤ s.size ∧ s.size ≤ y.a + n ∧ l.length + x.a ≤ y.a) (fun v wr => s.size - atOf wr b)
  case atStart => exact ⟨x, [], s.size - x.a, h', Kb.refl _ _, World.ownsRow_nil _ _ _ _, by unfold Hid; rw [Nat.sub_add_comm ha], ha, by omega, by simp⟩
  case round =>
    obtain ⟨y, l, n, h1, hk, hown, hrun, hya, hn, hl⟩ := hrel
    clear h' hA
    have hlt1 := h1.out.lt
    have hsz := hk.size
    go_wp2_with fail
    refine (name_any b s y it _ hs hya h1.out).mono ?_
    rintro e w1 ⟨rfl, hd1, hk1⟩
    have hd1' : Hid (RD w1 b s (rname s y).1 it) := hd1
    have hge := rname_ge s y
    have hle : (rname s y).1.a ≤ s.size := by rw [rname_a]; exact scan_le _ _ _ hya
    have hown1 : Hid (w1.ownsRow w.heap.size 9 1 u4 l.length (l.map .string)) := owns_kb hown.out hk1 hlt
    have hsz1 := hk1.size
    clear hd1
    have hstep : Hid (rpathLoop s (n + 1) y l = if ris s (rname s y).1 46 = true then rpathLoop s n ⟨(rname s y).1.a + 1, (rname s y).1.e, (rname s y).1.p⟩ (l ++ [(rname s y).2]) else ((rname s y).1, l ++ [(rname s y).2])) := rfl
    generalize (rname s y).2 = nm at *
    generalize (rname s y).1 = z at *
    have hkz : Kb b w w1 := hk.trans hk1
    have hlz := hd1'.out.lt
    go_wp2_with (at_builtin; refine wpList_append_own _ rfl (.tmp 13) (.tmp 15) 38 rfl w.heap.size 9 i0 (.string ⟨#[]⟩) 1 16 Tryz.underlying38 hi hz0 hz1 hz2 rfl (by decide) _ _ _ rfl (hown1.out.alloc _) ⟨w1.heap.size, 0, none⟩ 1 1 [.string nm] rfl rfl (cell_one_new _ _ _) (by intro u hu; simp at hu; subst hu; rfl) (by unfold maxLen; omega) (by omega) (by simp; omega) ?_; intro v1 w2 hown2 hgrow2 hnil2)
    have hd2 : Hid (RD w2 b s z it) := (hd1'.out.alloc _).grown hgrow2 (owns_ne hown1.out hlt)
    have hk2 : Kb b w w2 := (hkz.alloc hlz _).grown hlt hgrow2 (fun k hk => (hown1.out.lt k hk).1)
    have hown2' : Hid (w2.ownsRow w.heap.size 9 1 v1 (l ++ [nm]).length ((l ++ [nm]).map .string)) := by
      unfold Hid
      simpa using hown2
    clear hown2 hgrow2 hnil2 hown1 hown hd1' hkz hk1
    have hA2 := hd2.out.A
    have hF2 := hd2.out.F
    have hlt2 := hd2.out.lt
    cases hr : ris s z 46
    · have hfin : Hid (rpathLoop s (s.size + 1 - x.a) x [] = (z, l ++ [nm])) := by
        unfold Hid
        rw [hrun.out, hstep.out, if_neg (by rw [hr]; simp)]
      go_wp2_with fail
      refine (is_any b s z it 46 _ hs (by omega) hd2.out).mono ?_
      rintro e w3 ⟨rfl, nq, rfl⟩
      have hp : Hid (rpath s x = (if 4 < (l ++ [nm]).length then rno z 4 x.a else z, l ++ [nm])) := by
        unfold Hid rpath
        rw [hfin.out]
      generalize l ++ [nm] = l2 at *
      obtain ⟨ad, cap, rfl⟩ := owns_form hown2'.out
      by_cases h4 : 4 < l2.length
      · have t4 : decide ((l2.length : Int) > 4) = true := by simp; omega
        go_wp2_with fail
        refine (no_any b s z it 4 x.a _ (hd2.out.drewN nq)).mono ?_
        rintro e w4 ⟨rfl, hd4, hk4⟩
        have hd4' : Hid (RD w4 b s (rno z 4 x.a) it) := hd4
        clear hd4
        go_wp2_with fail
        go_ret
        refine ⟨_, rfl, by rw [hp.out, if_pos h4]; exact hd4'.out, (hk2.drewN nq).trans hk4, ?_⟩
        rw [hp.out]
        exact owns_rowIn (owns_kb (owns_drewN hown2'.out nq) hk4 hlt)
      · have t4 : decide ((l2.length : Int) > 4) = false := by simp; omega
        go_wp2_with fail
        go_ret
        refine ⟨_, rfl, by rw [hp.out, if_neg h4]; exact hd2.out.drewN nq, hk2.drewN nq, ?_⟩
        rw [hp.out]
        exact owns_rowIn (owns_drewN hown2'.out nq)
    · have hfin : Hid (rpathLoop s (s.size + 1 - x.a) x [] = rpathLoop s n ⟨z.a + 1, z.e, z.p⟩ (l ++ [nm])) := by
        unfold Hid
        rw [hrun.out, hstep.out, if_pos hr]
      have hlt3 := ris_lt hr
      go_wp2_with fail
      refine (is_any b s z it 46 _ hs (by omega) hd2.out).mono ?_
      rintro e w3 ⟨rfl, nq, rfl⟩
      go_wp2_with fail
      obtain ⟨m, rfl⟩ : ∃ m, n = m + 1 := ⟨n - 1, by omega⟩
      go_roundw
      case rel => exact ⟨⟨z.a + 1, z.e, z.p⟩, l ++ [nm], m, hd2.out.step nq, (hk2.drewN nq).set _ _, owns_kb hown2'.out (((Kb.refl _ _).drewN nq).set _ _) hlt, hfin, by simp only; omega, by simp only; omega, by simp only [List.length_append, List.length_singleton]; omega⟩
      case measure => rw [(hd2.out.step nq).atOf, h1.out.atOf]; simp only; omega
end Go.Proofs.YtdebjhdafnpfkaaGreatDoor
