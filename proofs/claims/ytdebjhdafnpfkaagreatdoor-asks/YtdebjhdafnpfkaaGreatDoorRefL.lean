import Derived.Test.YtdebjhdafnpfkaaGreatDoorRefK
import Derived.Test.YtdebjhdafnpfkaaGreatDoorWorld4
namespace Go.Proofs.YtdebjhdafnpfkaaGreatDoor
open Go.ChangeShapes Go.WideShapes Go.ChangeAt Go.RowKit
set_option linter.unusedVariables false

theorem rtable_take (l : List It) (k : Nat) (hk : k < l.length) : rtable (l.take (k + 1)) = if l[k].k = 91 then l[k].path else rtable (l.take k) := by
  unfold rtable
  rw [List.take_succ_eq_append_getElem hk, List.reverse_append]
  simp only [List.reverse_cons, List.reverse_nil, List.nil_append, List.cons_append, List.find?_cons]
  by_cases h : l[k].k = 91
  · simp [h]
  · simp [h]
theorem rtable_nil : rtable [] = [] := rfl

set_option maxHeartbeats 1000000 in
theorem table_any (b : Nat) (s : ByteArray) (x : St) (it : Value) (cs : List (List Value)) (items : List It) (w : World) (h : RD w b s x it) (hits : Its w b it cs items) (hlen : items.length ≤ 10000) :
    Calls Tryz.prog 88 #[.pointer (some ⟨b, 0, none⟩)] w fun e w' => ∃ tv lo hi, e = .returned tv ∧ (∃ n, w' = w.drewN n) ∧ RowIn w lo hi 9 tv ((rtable items).map .string) ∧ hi ≤ w.heap.size ∧ (rtable items).length ≤ 4001 := by
  have hI := h.I
  have hlt := h.lt
  have HI : Hid (Its w b it cs items) := hits
  clear hits h
  obtain ⟨ad, cap, e⟩ := owns5_form HI.out.2.1
  subst e
  go_enter Tryz.func88, Tryz.ntmps88
  go_wp2_with fail
  go_loopw [3] (fun i wr => ∃ k : Nat, k ≤ items.length ∧ i = .int .i64 ((k : Int) - 1) ∧ Hid (rtable items = rtable (items.take k)) ∧ ∃ n, wr = w.drewN n) (fun i _ => (intOf i + 1).toNat)
  case atStart => exact ⟨items.length, Nat.le_refl _, rfl, by unfold Hid; rw [List.take_length], 0, rfl⟩
  case round =>
    obtain ⟨k, hk, rfl, htk, n, rfl⟩ := hrel
    by_cases hk0 : k = 0
    · subst hk0
      have t0 : decide (((0 : Nat) : Int) - 1 ≥ 0) = false := by decide
      have hfin : Hid (rtable items = []) := by unfold Hid; rw [htk.out]; rfl
      go_wp2_with fail
      go_ret
      exact ⟨_, 0, 0, rfl, ⟨_, rfl⟩, by rw [hfin.out]; exact RowIn.nil _ _ _ _, Nat.zero_le _, by rw [hfin.out]; simp⟩
    · obtain ⟨j, rfl⟩ : ∃ j, k = j + 1 := ⟨k - 1, by omega⟩
      obtain ⟨g, pv, fv, vv, lo, h', hg, hbg, hgz, c0, c1, c2, c3, c4, r1, r2, l1, l2, _, hz, _, _⟩ := HI.out.cells j (by omega)
      subst hg
      have Hr1 : Hid (RowIn w lo h' 9 pv ((items[j]'(by omega)).path.map .string)) := r1
      have Hl1 : Hid ((items[j]'(by omega)).path.length ≤ 4001) := l1
      have hst := rtable_take items j (by omega)
      have Hst : Hid (rtable (items.take (j + 1)) = if (items[j]'(by omega)).k = 91 then (items[j]'(by omega)).path else rtable (items.take j)) := hst
      clear r1 r2 l1 l2 hst c2 c3 c4 hk0
      generalize (items[j]'(by omega)).path = pth at *
      generalize (items[j]'(by omega)).k = kk at *
      have tj : (((j + 1 : Nat) : Int) - 1) = (j : Int) := by omega
      rw [tj]
      obtain ⟨ap, cp, ep⟩ := owns_form Hr1.out.1
      subst ep
      by_cases h91 : kk = 91
      · have t91 : ((kk : Int) == 91) = true := by simp [h91]
        have hfin : Hid (rtable items = pth) := by unfold Hid; rw [htk.out, Hst.out, if_pos h91]
        clear h91
        go_wp2_with fail
        go_ret
        exact ⟨_, lo, h', rfl, ⟨_, rfl⟩, by rw [hfin.out]; have q := Hr1.out; simp only [List.length_map] at q; exact q, hz, by rw [hfin.out]; exact Hl1.out⟩
      · have t91 : ((kk : Int) == 91) = false := by simp; omega
        have hfin : Hid (rtable items = rtable (items.take j)) := by unfold Hid; rw [htk.out, Hst.out, if_neg h91]
        clear h91
        go_wp2_with fail
        go_roundw
        case rel => exact ⟨j, by omega, rfl, hfin, _, rfl⟩
        case measure => simp [intOf]
end Go.Proofs.YtdebjhdafnpfkaaGreatDoor
