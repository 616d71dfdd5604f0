import Derived.Test.YtdebjhdafnpfkaaGreatDoorRefI
namespace Go.Proofs.YtdebjhdafnpfkaaGreatDoor
open Go.ChangeShapes Go.WideShapes Go.ChangeAt Go.RowKit
set_option linter.unusedVariables false

theorem row_cell {w : World} {base : Nat} {ad : Option Addr} {n cap : Nat} {l : List ByteArray} (h : w.ownsRow base 9 1 (.slice ad n cap) n (l.map .string)) (k : Nat) (hk : k < l.length) :
    ∃ g, ad = some ⟨g, 0, none⟩ ∧ w.cell? ⟨g, k, none⟩ = some (.string l[k]) := by
  have hn : n = l.length := by have := h.1; simp at this; omega
  subst hn
  obtain ⟨g, hg, _, _⟩ := owns_some h (by omega)
  subst hg
  refine ⟨g, rfl, ?_⟩
  rw [h.cellAt k (by omega)]
  simp [hk]
theorem starts_stop (p q : List ByteArray) (k : Nat) (h1 : k < p.length) (h2 : k < q.length) (h : ¬ p[k] = q[k]) : rstarts p q = false := by
  simp only [rstarts, decide_eq_false_iff_not]
  rintro ⟨hl, he⟩
  apply h
  have e := congrArg (fun l => l[k]?) he
  simp only [List.getElem?_take, h2, if_true, List.getElem?_eq_getElem h1, List.getElem?_eq_getElem h2, Option.some.injEq] at e
  exact e

set_option maxHeartbeats 1000000 in
theorem starts_any (l1 l2 : Nat) (pv wv : Value) (p q : List ByteArray) (w : World) (hp : w.ownsRow l1 9 1 pv p.length (p.map .string)) (hq : w.ownsRow l2 9 1 wv q.length (q.map .string))
    (hpl : p.length ≤ 10000) (hql : q.length ≤ 10000) :
    Calls Tryz.prog 111 #[pv, wv] w fun e w' => e = .returned (.bool (rstarts p q)) ∧ ∃ n, w' = w.drewN n := by
  have Hp : Hid (w.ownsRow l1 9 1 pv p.length (p.map .string)) := hp
  have Hq : Hid (w.ownsRow l2 9 1 wv q.length (q.map .string)) := hq
  clear hp hq
  obtain ⟨ap, cp, e1⟩ := owns_form Hp.out
  obtain ⟨aq, cq, e2⟩ := owns_form Hq.out
  subst e1
  subst e2
  by_cases hlen : p.length < q.length
  · have hfin : Hid (rstarts p q = false) := by
      unfold Hid
      simp only [rstarts, decide_eq_false_iff_not]
      omega
    have td : decide ((p.length : Int) < q.length) = true := by simp; omega
    go_enter Tryz.func111, Tryz.ntmps111
    go_wp2_with fail
    go_ret
    exact ⟨ret_bool hfin.out.symm, 0, rfl⟩
  · have td : decide ((p.length : Int) < q.length) = false := by simp; omega
    have td' : decide (p.length < q.length) = false := by simp; omega
    go_enter Tryz.func111, Tryz.ntmps111
    go_wp2_with fail
    go_loopw [5] (fun i wr => ∃ k : Nat, k ≤ q.length ∧ i = .int .i64 k ∧ Hid (p.take k = q.take k) ∧ ∃ n, wr = w.drewN n) (fun i _ => q.length - (intOf i).toNat)
    case atStart => exact ⟨0, Nat.zero_le _, rfl, rfl, 0, rfl⟩
    case round =>
      obtain ⟨k, hk, rfl, htk, n, rfl⟩ := hrel
      by_cases hkq : k < q.length
      · have hkp : k < p.length := by omega
        obtain ⟨gp, e1, hc1⟩ := row_cell Hp.out k hkp
        obtain ⟨gq, e2, hc2⟩ := row_cell Hq.out k hkq
        subst e1
        subst e2
        have t1 : decide (k < q.length) = true := by simpa using hkq
        by_cases heq : p[k] = q[k]
        · have ts : (p[k].toList == q[k].toList) = true := by rw [toList_beq]; simpa using heq
          have hnx : Hid (p.take (k + 1) = q.take (k + 1)) := by
            unfold Hid
            rw [List.take_succ_eq_append_getElem hkp, List.take_succ_eq_append_getElem hkq, htk.out, heq]
          clear heq
          go_wp2_with fail
          go_quiet (fail)
          go_wp2_with fail
          go_roundw
          case rel => exact ⟨k + 1, by omega, by go_num, hnx, _, rfl⟩
          case measure => simp [intOf]; omega
        · have ts : (p[k].toList == q[k].toList) = false := by rw [toList_beq]; simpa using heq
          have hfin : Hid (rstarts p q = false) := starts_stop p q k hkp hkq heq
          clear heq
          go_wp2_with fail
          go_quiet (fail)
          go_wp2_with fail
          go_ret
          exact ⟨ret_bool hfin.out.symm, n + nq, World.drewN_drewN _ _ _⟩
      · have t1 : decide (k < q.length) = false := by simpa using hkq
        have hfin : Hid (rstarts p q = true) := by
          unfold Hid
          simp only [rstarts, decide_eq_true_eq]
          refine ⟨by omega, ?_⟩
          have := htk.out
          rw [show k = q.length by omega, List.take_length] at this
          exact this
        go_wp2_with fail
        go_ret
        exact ⟨ret_bool hfin.out.symm, _, rfl⟩
end Go.Proofs.YtdebjhdafnpfkaaGreatDoor
