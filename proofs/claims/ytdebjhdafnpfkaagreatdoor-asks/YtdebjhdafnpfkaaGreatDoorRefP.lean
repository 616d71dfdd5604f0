import Derived.Test.YtdebjhdafnpfkaaGreatDoorRefL
import Derived.Deep.Draws
namespace Go.Proofs.YtdebjhdafnpfkaaGreatDoor
open Go.ChangeShapes Go.WideShapes Go.ChangeAt Go.RowKit
set_option linter.unusedVariables false

theorem last_header (items : List It) : ∀ n, n ≤ items.length → (∀ j (h : j < n) (h2 : j < items.length), items[j].k ≠ 91) ∨ ∃ i, ∃ (_ : i < n) (h2 : i < items.length), items[i].k = 91 ∧ ∀ j (h3 : i < j) (h4 : j < n) (h5 : j < items.length), items[j].k ≠ 91
  | 0, _ => .inl (fun j h => absurd h (Nat.not_lt_zero _))
  | n + 1, hn => by
    by_cases h : (items[n]'(by omega)).k = 91
    · exact .inr ⟨n, by omega, by omega, h, fun j h3 h4 => by omega⟩
    · rcases last_header items n (by omega) with ih | ⟨i, h1, h2, h3, h4⟩
      · refine .inl (fun j hj h2 => ?_)
        by_cases e : j = n
        · subst e; exact h
        · exact ih j (by omega) h2
      · refine .inr ⟨i, by omega, h2, h3, fun j a1 a2 a3 => ?_⟩
        by_cases e : j = n
        · subst e; exact h
        · exact h4 j a1 (by omega) a3
theorem rtable_none (items : List It) (h : ∀ j (h : j < items.length), items[j].k ≠ 91) : ∀ n, n ≤ items.length → rtable (items.take n) = []
  | 0, _ => rfl
  | n + 1, hn => by
    rw [rtable_take items n (by omega), if_neg (h n (by omega))]
    exact rtable_none items h n (by omega)
theorem rtable_at (items : List It) (i : Nat) (hi : i < items.length) (h : items[i].k = 91) (hn : ∀ j (h3 : i < j) (h5 : j < items.length), items[j].k ≠ 91) : ∀ n, n ≤ items.length → i < n → rtable (items.take n) = items[i].path
  | 0, _, h0 => absurd h0 (Nat.not_lt_zero _)
  | n + 1, hl, h0 => by
    rw [rtable_take items n (by omega)]
    by_cases e : i = n
    · subst e
      rw [if_pos h]
    · rw [if_neg (hn n (by omega) (by omega))]
      exact rtable_at items i hi h hn n (by omega) (by omega)

set_option maxHeartbeats 1000000 in
theorem table_det (b : Nat) (s : ByteArray) (x : St) (it : Value) (cs : List (List Value)) (items : List It) (w : World) (h : RD w b s x it) (hits : Its w b it cs items) (hlen : items.length ≤ 10000) :
    ∃ tv lo hi, RowIn w lo hi 9 tv ((rtable items).map .string) ∧ hi ≤ w.heap.size ∧ (rtable items).length ≤ 4001 ∧
      ∀ n, Calls Tryz.prog 88 #[.pointer (some ⟨b, 0, none⟩)] (w.drewN n) fun e w' => e = .returned tv ∧ ∃ m, w' = w.drewN m := by
  have hI := h.I
  have hlt := h.lt
  have HI : Hid (Its w b it cs items) := hits
  clear hits h
  obtain ⟨ad, cap, e⟩ := owns5_form HI.out.2.1
  subst e
  rcases last_header items items.length (Nat.le_refl _) with hno | ⟨i, hi1, hi, hi91, hno⟩
  · have ht : rtable items = [] := by have := rtable_none items (fun j hj => hno j hj hj) items.length (Nat.le_refl _); rwa [List.take_length] at this
    refine ⟨.slice none 0 0, 0, 0, by rw [ht]; exact RowIn.nil _ _ _ _, Nat.zero_le _, by rw [ht]; simp, fun n0 => ?_⟩
    have Hno : Hid (∀ j (h : j < items.length), items[j].k ≠ 91) := fun j hj => hno j hj hj
    clear hno ht
    go_enter Tryz.func88, Tryz.ntmps88
    go_wp2_with fail
    go_loopw [3] (fun i wr => ∃ k : Nat, k ≤ items.length ∧ i = .int .i64 ((k : Int) - 1) ∧ ∃ n, wr = w.drewN n) (fun i _ => (intOf i + 1).toNat)
    case atStart => exact ⟨items.length, Nat.le_refl _, rfl, n0, rfl⟩
    case round =>
      obtain ⟨k, hk, rfl, n, rfl⟩ := hrel
      by_cases hk0 : k = 0
      · subst hk0
        have t0 : decide (((0 : Nat) : Int) - 1 ≥ 0) = false := by decide
        go_wp2_with fail
        go_ret
        exact ⟨rfl, _, rfl⟩
      · obtain ⟨j, rfl⟩ : ∃ j, k = j + 1 := ⟨k - 1, by omega⟩
        obtain ⟨g, pv, fv, vv, lo, h', hg, hbg, hgz, c0, c1, c2, c3, c4, r1, r2, l1, l2, _, hz, _, _⟩ := HI.out.cells j (by omega)
        subst hg
        have hj := Hno.out j (by omega)
        clear r1 r2 l1 l2 c2 c3 c4 hk0 c1
        have tj : (((j + 1 : Nat) : Int) - 1) = (j : Int) := by omega
        rw [tj]
        have t91 : (((items[j]'(by omega)).k : Int) == 91) = false := by simp; omega
        go_wp2_with fail
        go_roundw
        case rel => exact ⟨j, by omega, rfl, _, rfl⟩
        case measure => simp [intOf]
  · obtain ⟨g, pv, fv, vv, lo, h', hg, hbg, hgz, c0, c1, c2, c3, c4, r1, r2, l1, l2, _, hz, _, _⟩ := HI.out.cells i hi
    have ht : rtable items = items[i].path := by have := rtable_at items i hi hi91 (fun j a c => hno j a c c) items.length (Nat.le_refl _) hi; rwa [List.take_length] at this
    refine ⟨pv, lo, h', by rw [ht]; exact r1, hz, by rw [ht]; exact l1, fun n0 => ?_⟩
    subst hg
    have Hno : Hid (∀ j (_ : i < j) (h : j < items.length), items[j].k ≠ 91) := fun j a hj => hno j a hj hj
    have t91 : ((items[i].k : Int) == 91) = true := by simp [hi91]
    obtain ⟨ap, cp, ep⟩ := owns_form r1.1
    subst ep
    have Hc : Hid (w.cell? ⟨g, i * 5, none⟩ = some (.int .u8 items[i].k) ∧ w.cell? ⟨g, i * 5 + 1, none⟩ = some (.slice ap (items[i].path.map Value.string).length cp)) := ⟨c0, c1⟩
    have Ht91 : Hid _ := t91
    clear hno ht r1 r2 l1 l2 c0 c1 c2 c3 c4 t91 hi91
    go_enter Tryz.func88, Tryz.ntmps88
    go_wp2_with fail
    go_loopw [3] (fun v wr => ∃ k : Nat, i + 1 ≤ k ∧ k ≤ items.length ∧ v = .int .i64 ((k : Int) - 1) ∧ ∃ n, wr = w.drewN n) (fun v _ => (intOf v + 1).toNat)
    case atStart => exact ⟨items.length, by omega, Nat.le_refl _, rfl, n0, rfl⟩
    case round =>
      obtain ⟨k, hik, hk, rfl, n, rfl⟩ := hrel
      obtain ⟨j, rfl⟩ : ∃ j, k = j + 1 := ⟨k - 1, by omega⟩
      have tj : (((j + 1 : Nat) : Int) - 1) = (j : Int) := by omega
      rw [tj]
      by_cases hji : j = i
      · subst hji
        obtain ⟨c0, c1⟩ := Hc.out
        have t91 := Ht91.out
        go_wp2_with fail
        go_ret
        exact ⟨by rw [List.length_map]; rfl, _, rfl⟩
      · obtain ⟨g2, pv2, fv2, vv2, lo2, h2', hg2, hbg2, hgz2, c0, c1, c2, c3, c4, r1, r2, l1, l2, _, hz2, _, _⟩ := HI.out.cells j (by omega)
        simp only [Option.some.injEq, Addr.mk.injEq, and_true] at hg2
        subst hg2
        have hj := Hno.out j (by omega) (by omega)
        clear r1 r2 l1 l2 c2 c3 c4 c1
        have t91 : (((items[j]'(by omega)).k : Int) == 91) = false := by simp; omega
        go_wp2_with fail
        go_roundw
        case rel => exact ⟨j, by omega, by omega, rfl, _, rfl⟩
        case measure => simp [intOf]
end Go.Proofs.YtdebjhdafnpfkaaGreatDoor
