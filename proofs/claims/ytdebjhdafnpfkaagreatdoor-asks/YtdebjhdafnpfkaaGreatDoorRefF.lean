import Derived.Test.YtdebjhdafnpfkaaGreatDoorRefD
import Derived.Test.YtdebjhdafnpfkaaGreatDoorRefE
namespace Go.Proofs.YtdebjhdafnpfkaaGreatDoor
open Go.ChangeShapes Go.WideShapes Go.ChangeAt Go.RowKit
set_option linter.unusedVariables false

theorem okDigits_at {t : ByteArray} : ∀ {n i : Nat}, okDigits t n = true → i < n → bt t i ≠ 95 → 48 ≤ bt t i ∧ bt t i ≤ 57
  | 0, i, _, hi, _ => absurd hi (Nat.not_lt_zero _)
  | n + 1, i, h, hi, hb => by
    simp only [okDigits, Bool.and_eq_true] at h
    by_cases e : i = n
    · subst e
      have := h.2
      simp only [okDigit, decide_eq_true_eq] at this
      omega
    · exact okDigits_at h.1 (by omega) hb
theorem rdig_bd {t : ByteArray} (h : okDigits t t.size = true) : ∀ k, k ≤ t.size → 0 ≤ rdig t k ∧ rdig t k ≤ 9999999999999999
  | 0, _ => by simp [rdig]
  | k + 1, hk => by
    have ih := rdig_bd h k (by omega)
    simp only [rdig]
    split
    · rename_i hc
      have := okDigits_at h (show k < t.size by omega) hc.1
      omega
    · exact ih

theorem rrun_le (s : ByteArray) (x : St) (ha : x.a ≤ s.size) : (rrun s x).1.a ≤ s.size := scan_le _ _ _ ha
theorem rrun_size (s : ByteArray) (x : St) (ha : x.a ≤ s.size) : (rrun s x).2.size ≤ s.size := by
  have := scan_le letterB s x.a ha
  have := scan_ge letterB s x.a
  simp [rrun, ByteArray.size_extract]
  omega

def node (k : Nat) (n : Int) (t : ByteArray) : Obj := .cells #[.int .u8 k, .int .i64 n, .string t, .slice none 0 0, .slice none 0 0] 134
theorem leaf_new {d lo : Nat} {w : World} (k : Nat) (n : Int) (t : ByteArray) (h : lo ≤ w.heap.size) : RVal (d + 1) lo (w.alloc (node k n t)).heap.size (w.alloc (node k n t)) w.heap.size ⟨k, n, t, [], []⟩ := by
  have c : ∀ o, (w.alloc (node k n t)).cell? ⟨w.heap.size, o, none⟩ = #[Value.int .u8 k, .int .i64 n, .string t, .slice none 0 0, .slice none 0 0][o]? := by
    intro o
    simp [node]
  exact RVal.leaf h (by simp) (c 0) (c 1) (c 2) (c 3) (c 4)

theorem true_beq (t : ByteArray) : (t.toList == [116, 114, 117, 101]) = decide (t = trueS) := by
  have h : trueS.toList = [116, 114, 117, 101] := ByteArray.toList_mk [116, 114, 117, 101]
  rw [← h, toList_beq]
theorem false_beq (t : ByteArray) : (t.toList == [102, 97, 108, 115, 101]) = decide (t = falseS) := by
  have h : falseS.toList = [102, 97, 108, 115, 101] := ByteArray.toList_mk [102, 97, 108, 115, 101]
  rw [← h, toList_beq]

set_option maxHeartbeats 2000000 in
theorem word_ff (b : Nat) (s : ByteArray) (x : St) (it : Value) (w : World) (hs : s.size ≤ 4000) (ha : x.a ≤ s.size)
    (h : RD w b s x it) (hm : ris s x 45 = false) (hp : ris s x 43 = false) :
    Calls Tryz.prog 110 #[.pointer (some ⟨b, 0, none⟩)] w fun e w' => ∃ q, e = .returned (ptr q) ∧ RD w' b s (rword s x).1 it ∧ Kb b w w' ∧ ∀ d, RVal (d + 1) w.heap.size w'.heap.size w' q (rword s x).2 := by
  have hA := h.A
  have hF := h.F
  have hlt := h.lt
  have h' : Hid (RD w b s x it) := h
  clear h
  have hx : Hid (rword s x = rwordAt s x.a false false x) := by unfold Hid; simp [rword, hm, hp]
  go_enter Tryz.func110, Tryz.ntmps110
  go_wp2_with fail
  refine (is_any b s x it 45 _ hs (by omega) h'.out).mono ?_
  rintro e w1 ⟨rfl, n1, rfl⟩
  go_wp2_with fail
  refine (is_any b s x it 43 _ hs (by omega) (h'.out.drewN n1)).mono ?_
  rintro e w1 ⟨rfl, n2, rfl⟩
  go_wp2_with fail
  refine (run_any b s x it _ hs ha (h'.out.drewN (n1 + n2))).mono ?_
  rintro e w2 ⟨rfl, hd2, hk2⟩
  have hk : Kb b w w2 := ((Kb.refl _ _).drewN (n1 + n2)).trans hk2
  have hts := rrun_size s x ha
  have hd2' : Hid (RD w2 b s (rrun s x).1 it) := hd2
  have hx' : Hid (rword s x = if false = false ∧ false = false ∧ ((rrun s x).2 = trueS ∨ (rrun s x).2 = falseS) then ((rrun s x).1, ⟨98, if (rrun s x).2 = trueS then 1 else 0, ⟨#[]⟩, [], []⟩) else if rnumber (rrun s x).2 = false then (rno (rrun s x).1 3 x.a, V0) else (if 999999999999999 < rdig (rrun s x).2 (rrun s x).2.size then rno (rrun s x).1 4 x.a else (rrun s x).1, ⟨110, if false = true then - rdig (rrun s x).2 (rrun s x).2.size else rdig (rrun s x).2 (rrun s x).2.size, ⟨#[]⟩, [], []⟩)) := hx.out
  clear hd2 hx hk2 hA hF
  generalize (rrun s x).2 = t at *
  generalize (rrun s x).1 = y at *
  have hyl := hd2'.out.lt
  by_cases hT : t = trueS
  · have tT : (t.toList == [116, 114, 117, 101]) = true := by rw [true_beq]; simpa using hT
    have hfin : Hid (rword s x = (y, ⟨98, 1, ⟨#[]⟩, [], []⟩)) := by
      unfold Hid
      rw [hx'.out]
      simp [hT]
    clear hT hx'
    go_wp2_with fail
    go_ret
    refine ⟨_, rfl, by rw [hfin.out]; exact hd2'.out.alloc _, hk.alloc hyl _, fun d => ?_⟩
    rw [hfin.out]
    exact leaf_new (d := d) 98 1 ⟨#[]⟩ hk.size
  · have tT : (t.toList == [116, 114, 117, 101]) = false := by rw [true_beq]; simpa using hT
    by_cases hFa : t = falseS
    · have tF : (t.toList == [102, 97, 108, 115, 101]) = true := by rw [false_beq]; simpa using hFa
      have hfin : Hid (rword s x = (y, ⟨98, 0, ⟨#[]⟩, [], []⟩)) := by
        unfold Hid
        rw [hx'.out, if_pos ⟨rfl, rfl, .inr hFa⟩, if_neg hT]
      clear hT hFa hx'
      go_wp2_with fail
      go_ret
      refine ⟨_, rfl, by rw [hfin.out]; exact hd2'.out.alloc _, hk.alloc hyl _, fun d => ?_⟩
      rw [hfin.out]
      exact leaf_new (d := d) 98 0 ⟨#[]⟩ hk.size
    · have tF : (t.toList == [102, 97, 108, 115, 101]) = false := by rw [false_beq]; simpa using hFa
      have hnT : Hid (t ≠ trueS) := hT
      have hnF : Hid (t ≠ falseS) := hFa
      clear hT hFa
      go_wp2_with fail
      refine (number_any t _ (by omega)).mono ?_
      rintro e w3 ⟨rfl, rfl⟩
      cases hnum : rnumber t
      · have hfin : Hid (rword s x = (rno y 3 x.a, V0)) := by
          unfold Hid
          rw [hx'.out]
          simp [hnum, hnT.out, hnF.out]
        go_wp2_with fail
        refine (no_any b s y it 3 x.a _ hd2'.out).mono ?_
        rintro e w4 ⟨rfl, hd4, hk4⟩
        have hd4' : Hid (RD w4 b s (rno y 3 x.a) it) := hd4
        clear hd4
        go_wp2_with fail
        go_ret
        refine ⟨_, rfl, by rw [hfin.out]; exact hd4'.out.alloc _, (hk.trans hk4).alloc hd4'.out.lt _, fun d => ?_⟩
        rw [hfin.out]
        exact leaf_new (d := d) 0 0 ⟨#[]⟩ (hk.trans hk4).size
      · have hfin : Hid (rword s x = (if 999999999999999 < rdig t t.size then rno y 4 x.a else y, ⟨110, rdig t t.size, ⟨#[]⟩, [], []⟩)) := by
          unfold Hid
          rw [hx'.out]
          simp [hnum, hnT.out, hnF.out]
        have hds : Hid (okDigits t t.size = true) := by
          unfold Hid
          simp only [rnumber, Bool.and_eq_true] at hnum
          exact hnum.2
        clear hx'
        go_wp2_with fail
        go_loop [9, 10] (fun n i => ∃ k : Nat, k ≤ t.size ∧ i = .int .i64 k ∧ n = .int .i64 (rdig t k)) (fun _ i => t.size - (intOf i).toNat)
        case atStart => exact ⟨0, Nat.zero_le _, rfl, rfl⟩
        case round =>
          obtain ⟨k, hk0, rfl, rfl⟩ := hrel
          obtain ⟨hbd1, hbd2⟩ := rdig_bd hds.out k hk0
          by_cases hlt2 : k < t.size
          · have hbt := bt_in t k hlt2
            have hb256 := bt_lt t k
            have hnx : Hid (rdig t (k + 1) = if bt t k ≠ 95 ∧ rdig t k ≤ 999999999999999 then 10 * rdig t k + bt t k - 48 else rdig t k) := rfl
            by_cases h95 : bt t k = 95
            · have t95 : ((bt t k : Int) != 95) = false := by simp [h95]
              have hn2 : Hid (rdig t (k + 1) = rdig t k) := by unfold Hid; rw [hnx.out, if_neg (by simp [h95])]
              clear hnx h95
              go_wp2_with fail
              go_round
              case rel => exact ⟨k + 1, by omega, by go_num, by rw [hn2.out]⟩
              case measure => simp [intOf]; omega
            · have t95 : ((bt t k : Int) != 95) = true := by simp; omega
              obtain ⟨hg1, hg2⟩ := okDigits_at hds.out hlt2 h95
              by_cases hmx : rdig t k ≤ 999999999999999
              · have hn2 : Hid (rdig t (k + 1) = 10 * rdig t k + bt t k - 48) := by unfold Hid; rw [hnx.out, if_pos ⟨h95, hmx⟩]
                clear hnx h95
                go_wp2_with fail
                go_round
                case rel => exact ⟨k + 1, by omega, by go_num, by rw [hn2.out]⟩
                case measure => simp [intOf]; omega
              · have hn2 : Hid (rdig t (k + 1) = rdig t k) := by unfold Hid; rw [hnx.out, if_neg (by omega)]
                have tmx : decide (rdig t k ≤ 999999999999999) = false := by simpa using hmx
                clear hnx h95
                go_wp2_with fail
                go_round
                case rel => exact ⟨k + 1, by omega, by go_num, by rw [hn2.out]⟩
                case measure => simp [intOf]; omega
          · have e : k = t.size := by omega
            subst e
            by_cases hov : 999999999999999 < rdig t t.size
            · have tov : decide (rdig t t.size > 999999999999999) = true := by simpa using hov
              go_wp2_with fail
              refine (no_any b s y it 4 x.a _ hd2'.out).mono ?_
              rintro e w4 ⟨rfl, hd4, hk4⟩
              have hd4' : Hid (RD w4 b s (rno y 4 x.a) it) := hd4
              clear hd4
              go_wp2_with fail
              go_ret
              refine ⟨_, rfl, by rw [hfin.out, if_pos hov]; exact hd4'.out.alloc _, (hk.trans hk4).alloc hd4'.out.lt _, fun d => ?_⟩
              rw [hfin.out]
              exact leaf_new (d := d) 110 _ ⟨#[]⟩ (hk.trans hk4).size
            · have tov : decide (rdig t t.size > 999999999999999) = false := by simpa using hov
              go_wp2_with fail
              go_ret
              refine ⟨_, rfl, by rw [hfin.out, if_neg (by omega)]; exact hd2'.out.alloc _, hk.alloc hd2'.out.lt _, fun d => ?_⟩
              rw [hfin.out]
              exact leaf_new (d := d) 110 _ ⟨#[]⟩ hk.size

set_option maxHeartbeats 2000000 in
theorem word_ft (b : Nat) (s : ByteArray) (x : St) (it : Value) (w : World) (hs : s.size ≤ 4000) (ha : x.a ≤ s.size)
    (h : RD w b s x it) (hm : ris s x 45 = false) (hp : ris s x 43 = true) :
    Calls Tryz.prog 110 #[.pointer (some ⟨b, 0, none⟩)] w fun e w' => ∃ q, e = .returned (ptr q) ∧ RD w' b s (rword s x).1 it ∧ Kb b w w' ∧ ∀ d, RVal (d + 1) w.heap.size w'.heap.size w' q (rword s x).2 := by
  have hA := h.A
  have hF := h.F
  have hlt := h.lt
  have h' : Hid (RD w b s x it) := h
  clear h
  have hlt1 : x.a < s.size := ris_lt hp
  have hx : Hid (rword s x = rwordAt s x.a false true ⟨x.a + 1, x.e, x.p⟩) := by unfold Hid; simp [rword, hm, hp]
  go_enter Tryz.func110, Tryz.ntmps110
  go_wp2_with fail
  refine (is_any b s x it 45 _ hs (by omega) h'.out).mono ?_
  rintro e w1 ⟨rfl, n1, rfl⟩
  go_wp2_with fail
  refine (is_any b s x it 43 _ hs (by omega) (h'.out.drewN n1)).mono ?_
  rintro e w1 ⟨rfl, n2, rfl⟩
  go_wp2_with fail
  refine (run_any b s ⟨x.a + 1, x.e, x.p⟩ it _ hs (by simp only; omega) (h'.out.step (n1 + n2))).mono ?_
  rintro e w2 ⟨rfl, hd2, hk2⟩
  have hk : Kb b w w2 := (((Kb.refl _ _).drewN (n1 + n2)).set _ _).trans hk2
  have hts := rrun_size s ⟨x.a + 1, x.e, x.p⟩ (by simp only; omega)
  have hd2' : Hid (RD w2 b s (rrun s ⟨x.a + 1, x.e, x.p⟩).1 it) := hd2
  have hx' : Hid (rword s x = if false = false ∧ true = false ∧ ((rrun s ⟨x.a + 1, x.e, x.p⟩).2 = trueS ∨ (rrun s ⟨x.a + 1, x.e, x.p⟩).2 = falseS) then ((rrun s ⟨x.a + 1, x.e, x.p⟩).1, ⟨98, if (rrun s ⟨x.a + 1, x.e, x.p⟩).2 = trueS then 1 else 0, ⟨#[]⟩, [], []⟩) else if rnumber (rrun s ⟨x.a + 1, x.e, x.p⟩).2 = false then (rno (rrun s ⟨x.a + 1, x.e, x.p⟩).1 3 x.a, V0) else (if 999999999999999 < rdig (rrun s ⟨x.a + 1, x.e, x.p⟩).2 (rrun s ⟨x.a + 1, x.e, x.p⟩).2.size then rno (rrun s ⟨x.a + 1, x.e, x.p⟩).1 4 x.a else (rrun s ⟨x.a + 1, x.e, x.p⟩).1, ⟨110, if false = true then - rdig (rrun s ⟨x.a + 1, x.e, x.p⟩).2 (rrun s ⟨x.a + 1, x.e, x.p⟩).2.size else rdig (rrun s ⟨x.a + 1, x.e, x.p⟩).2 (rrun s ⟨x.a + 1, x.e, x.p⟩).2.size, ⟨#[]⟩, [], []⟩)) := hx.out
  clear hd2 hx hk2 hA hF
  generalize (rrun s ⟨x.a + 1, x.e, x.p⟩).2 = t at *
  generalize (rrun s ⟨x.a + 1, x.e, x.p⟩).1 = y at *
  have hyl := hd2'.out.lt
  have hnT : True := trivial
  have hnF : True := trivial
  go_wp2_with fail
  refine (number_any t _ (by omega)).mono ?_
  rintro e w3 ⟨rfl, rfl⟩
  cases hnum : rnumber t
  · have hfin : Hid (rword s x = (rno y 3 x.a, V0)) := by
      unfold Hid
      rw [hx'.out]
      simp [hnum]
    go_wp2_with fail
    refine (no_any b s y it 3 x.a _ hd2'.out).mono ?_
    rintro e w4 ⟨rfl, hd4, hk4⟩
    have hd4' : Hid (RD w4 b s (rno y 3 x.a) it) := hd4
    clear hd4
    go_wp2_with fail
    go_ret
    refine ⟨_, rfl, by rw [hfin.out]; exact hd4'.out.alloc _, (hk.trans hk4).alloc hd4'.out.lt _, fun d => ?_⟩
    rw [hfin.out]
    exact leaf_new (d := d) 0 0 ⟨#[]⟩ (hk.trans hk4).size
  · have hfin : Hid (rword s x = (if 999999999999999 < rdig t t.size then rno y 4 x.a else y, ⟨110, rdig t t.size, ⟨#[]⟩, [], []⟩)) := by
      unfold Hid
      rw [hx'.out]
      simp [hnum]
    have hds : Hid (okDigits t t.size = true) := by
      unfold Hid
      simp only [rnumber, Bool.and_eq_true] at hnum
      exact hnum.2
    clear hx'
    go_wp2_with fail
    go_loop [9, 10] (fun n i => ∃ k : Nat, k ≤ t.size ∧ i = .int .i64 k ∧ n = .int .i64 (rdig t k)) (fun _ i => t.size - (intOf i).toNat)
    case atStart => exact ⟨0, Nat.zero_le _, rfl, rfl⟩
    case round =>
      obtain ⟨k, hk0, rfl, rfl⟩ := hrel
      obtain ⟨hbd1, hbd2⟩ := rdig_bd hds.out k hk0
      by_cases hlt2 : k < t.size
      · have hbt := bt_in t k hlt2
        have hb256 := bt_lt t k
        have hnx : Hid (rdig t (k + 1) = if bt t k ≠ 95 ∧ rdig t k ≤ 999999999999999 then 10 * rdig t k + bt t k - 48 else rdig t k) := rfl
        by_cases h95 : bt t k = 95
        · have t95 : ((bt t k : Int) != 95) = false := by simp [h95]
          have hn2 : Hid (rdig t (k + 1) = rdig t k) := by unfold Hid; rw [hnx.out, if_neg (by simp [h95])]
          clear hnx h95
          go_wp2_with fail
          go_round
          case rel => exact ⟨k + 1, by omega, by go_num, by rw [hn2.out]⟩
          case measure => simp [intOf]; omega
        · have t95 : ((bt t k : Int) != 95) = true := by simp; omega
          obtain ⟨hg1, hg2⟩ := okDigits_at hds.out hlt2 h95
          by_cases hmx : rdig t k ≤ 999999999999999
          · have hn2 : Hid (rdig t (k + 1) = 10 * rdig t k + bt t k - 48) := by unfold Hid; rw [hnx.out, if_pos ⟨h95, hmx⟩]
            clear hnx h95
            go_wp2_with fail
            go_round
            case rel => exact ⟨k + 1, by omega, by go_num, by rw [hn2.out]⟩
            case measure => simp [intOf]; omega
          · have hn2 : Hid (rdig t (k + 1) = rdig t k) := by unfold Hid; rw [hnx.out, if_neg (by omega)]
            have tmx : decide (rdig t k ≤ 999999999999999) = false := by simpa using hmx
            clear hnx h95
            go_wp2_with fail
            go_round
            case rel => exact ⟨k + 1, by omega, by go_num, by rw [hn2.out]⟩
            case measure => simp [intOf]; omega
      · have e : k = t.size := by omega
        subst e
        by_cases hov : 999999999999999 < rdig t t.size
        · have tov : decide (rdig t t.size > 999999999999999) = true := by simpa using hov
          go_wp2_with fail
          refine (no_any b s y it 4 x.a _ hd2'.out).mono ?_
          rintro e w4 ⟨rfl, hd4, hk4⟩
          have hd4' : Hid (RD w4 b s (rno y 4 x.a) it) := hd4
          clear hd4
          go_wp2_with fail
          go_ret
          refine ⟨_, rfl, by rw [hfin.out, if_pos hov]; exact hd4'.out.alloc _, (hk.trans hk4).alloc hd4'.out.lt _, fun d => ?_⟩
          rw [hfin.out]
          exact leaf_new (d := d) 110 _ ⟨#[]⟩ (hk.trans hk4).size
        · have tov : decide (rdig t t.size > 999999999999999) = false := by simpa using hov
          go_wp2_with fail
          go_ret
          refine ⟨_, rfl, by rw [hfin.out, if_neg (by omega)]; exact hd2'.out.alloc _, hk.alloc hd2'.out.lt _, fun d => ?_⟩
          rw [hfin.out]
          exact leaf_new (d := d) 110 _ ⟨#[]⟩ hk.size

set_option maxHeartbeats 2000000 in
theorem word_tf (b : Nat) (s : ByteArray) (x : St) (it : Value) (w : World) (hs : s.size ≤ 4000) (ha : x.a ≤ s.size)
    (h : RD w b s x it) (hm : ris s x 45 = true) (hp : ris s x 43 = false) :
    Calls Tryz.prog 110 #[.pointer (some ⟨b, 0, none⟩)] w fun e w' => ∃ q, e = .returned (ptr q) ∧ RD w' b s (rword s x).1 it ∧ Kb b w w' ∧ ∀ d, RVal (d + 1) w.heap.size w'.heap.size w' q (rword s x).2 := by
  have hA := h.A
  have hF := h.F
  have hlt := h.lt
  have h' : Hid (RD w b s x it) := h
  clear h
  have hlt1 : x.a < s.size := ris_lt hm
  have hx : Hid (rword s x = rwordAt s x.a true false ⟨x.a + 1, x.e, x.p⟩) := by unfold Hid; simp [rword, hm, hp]
  go_enter Tryz.func110, Tryz.ntmps110
  go_wp2_with fail
  refine (is_any b s x it 45 _ hs (by omega) h'.out).mono ?_
  rintro e w1 ⟨rfl, n1, rfl⟩
  go_wp2_with fail
  refine (is_any b s x it 43 _ hs (by omega) (h'.out.drewN n1)).mono ?_
  rintro e w1 ⟨rfl, n2, rfl⟩
  go_wp2_with fail
  refine (run_any b s ⟨x.a + 1, x.e, x.p⟩ it _ hs (by simp only; omega) (h'.out.step (n1 + n2))).mono ?_
  rintro e w2 ⟨rfl, hd2, hk2⟩
  have hk : Kb b w w2 := (((Kb.refl _ _).drewN (n1 + n2)).set _ _).trans hk2
  have hts := rrun_size s ⟨x.a + 1, x.e, x.p⟩ (by simp only; omega)
  have hd2' : Hid (RD w2 b s (rrun s ⟨x.a + 1, x.e, x.p⟩).1 it) := hd2
  have hx' : Hid (rword s x = if true = false ∧ false = false ∧ ((rrun s ⟨x.a + 1, x.e, x.p⟩).2 = trueS ∨ (rrun s ⟨x.a + 1, x.e, x.p⟩).2 = falseS) then ((rrun s ⟨x.a + 1, x.e, x.p⟩).1, ⟨98, if (rrun s ⟨x.a + 1, x.e, x.p⟩).2 = trueS then 1 else 0, ⟨#[]⟩, [], []⟩) else if rnumber (rrun s ⟨x.a + 1, x.e, x.p⟩).2 = false then (rno (rrun s ⟨x.a + 1, x.e, x.p⟩).1 3 x.a, V0) else (if 999999999999999 < rdig (rrun s ⟨x.a + 1, x.e, x.p⟩).2 (rrun s ⟨x.a + 1, x.e, x.p⟩).2.size then rno (rrun s ⟨x.a + 1, x.e, x.p⟩).1 4 x.a else (rrun s ⟨x.a + 1, x.e, x.p⟩).1, ⟨110, if true = true then - rdig (rrun s ⟨x.a + 1, x.e, x.p⟩).2 (rrun s ⟨x.a + 1, x.e, x.p⟩).2.size else rdig (rrun s ⟨x.a + 1, x.e, x.p⟩).2 (rrun s ⟨x.a + 1, x.e, x.p⟩).2.size, ⟨#[]⟩, [], []⟩)) := hx.out
  clear hd2 hx hk2 hA hF
  generalize (rrun s ⟨x.a + 1, x.e, x.p⟩).2 = t at *
  generalize (rrun s ⟨x.a + 1, x.e, x.p⟩).1 = y at *
  have hyl := hd2'.out.lt
  have hnT : True := trivial
  have hnF : True := trivial
  go_wp2_with fail
  refine (number_any t _ (by omega)).mono ?_
  rintro e w3 ⟨rfl, rfl⟩
  cases hnum : rnumber t
  · have hfin : Hid (rword s x = (rno y 3 x.a, V0)) := by
      unfold Hid
      rw [hx'.out]
      simp [hnum]
    go_wp2_with fail
    refine (no_any b s y it 3 x.a _ hd2'.out).mono ?_
    rintro e w4 ⟨rfl, hd4, hk4⟩
    have hd4' : Hid (RD w4 b s (rno y 3 x.a) it) := hd4
    clear hd4
    go_wp2_with fail
    go_ret
    refine ⟨_, rfl, by rw [hfin.out]; exact hd4'.out.alloc _, (hk.trans hk4).alloc hd4'.out.lt _, fun d => ?_⟩
    rw [hfin.out]
    exact leaf_new (d := d) 0 0 ⟨#[]⟩ (hk.trans hk4).size
  · have hfin : Hid (rword s x = (if 999999999999999 < rdig t t.size then rno y 4 x.a else y, ⟨110, - rdig t t.size, ⟨#[]⟩, [], []⟩)) := by
      unfold Hid
      rw [hx'.out]
      simp [hnum]
    have hds : Hid (okDigits t t.size = true) := by
      unfold Hid
      simp only [rnumber, Bool.and_eq_true] at hnum
      exact hnum.2
    clear hx'
    go_wp2_with fail
    go_loop [9, 10] (fun n i => ∃ k : Nat, k ≤ t.size ∧ i = .int .i64 k ∧ n = .int .i64 (rdig t k)) (fun _ i => t.size - (intOf i).toNat)
    case atStart => exact ⟨0, Nat.zero_le _, rfl, rfl⟩
    case round =>
      obtain ⟨k, hk0, rfl, rfl⟩ := hrel
      obtain ⟨hbd1, hbd2⟩ := rdig_bd hds.out k hk0
      by_cases hlt2 : k < t.size
      · have hbt := bt_in t k hlt2
        have hb256 := bt_lt t k
        have hnx : Hid (rdig t (k + 1) = if bt t k ≠ 95 ∧ rdig t k ≤ 999999999999999 then 10 * rdig t k + bt t k - 48 else rdig t k) := rfl
        by_cases h95 : bt t k = 95
        · have t95 : ((bt t k : Int) != 95) = false := by simp [h95]
          have hn2 : Hid (rdig t (k + 1) = rdig t k) := by unfold Hid; rw [hnx.out, if_neg (by simp [h95])]
          clear hnx h95
          go_wp2_with fail
          go_round
          case rel => exact ⟨k + 1, by omega, by go_num, by rw [hn2.out]⟩
          case measure => simp [intOf]; omega
        · have t95 : ((bt t k : Int) != 95) = true := by simp; omega
          obtain ⟨hg1, hg2⟩ := okDigits_at hds.out hlt2 h95
          by_cases hmx : rdig t k ≤ 999999999999999
          · have hn2 : Hid (rdig t (k + 1) = 10 * rdig t k + bt t k - 48) := by unfold Hid; rw [hnx.out, if_pos ⟨h95, hmx⟩]
            clear hnx h95
            go_wp2_with fail
            go_round
            case rel => exact ⟨k + 1, by omega, by go_num, by rw [hn2.out]⟩
            case measure => simp [intOf]; omega
          · have hn2 : Hid (rdig t (k + 1) = rdig t k) := by unfold Hid; rw [hnx.out, if_neg (by omega)]
            have tmx : decide (rdig t k ≤ 999999999999999) = false := by simpa using hmx
            clear hnx h95
            go_wp2_with fail
            go_round
            case rel => exact ⟨k + 1, by omega, by go_num, by rw [hn2.out]⟩
            case measure => simp [intOf]; omega
      · have e : k = t.size := by omega
        subst e
        by_cases hov : 999999999999999 < rdig t t.size
        · have tov : decide (rdig t t.size > 999999999999999) = true := by simpa using hov
          go_wp2_with fail
          refine (no_any b s y it 4 x.a _ hd2'.out).mono ?_
          rintro e w4 ⟨rfl, hd4, hk4⟩
          have hd4' : Hid (RD w4 b s (rno y 4 x.a) it) := hd4
          clear hd4
          go_wp2_with fail
          go_ret
          refine ⟨_, rfl, by rw [hfin.out, if_pos hov]; exact hd4'.out.alloc _, (hk.trans hk4).alloc hd4'.out.lt _, fun d => ?_⟩
          rw [hfin.out]
          exact leaf_new (d := d) 110 _ ⟨#[]⟩ (hk.trans hk4).size
        · have tov : decide (rdig t t.size > 999999999999999) = false := by simpa using hov
          go_wp2_with fail
          go_ret
          refine ⟨_, rfl, by rw [hfin.out, if_neg (by omega)]; exact hd2'.out.alloc _, hk.alloc hd2'.out.lt _, fun d => ?_⟩
          rw [hfin.out]
          exact leaf_new (d := d) 110 _ ⟨#[]⟩ hk.size

theorem word_any (b : Nat) (s : ByteArray) (x : St) (it : Value) (w : World) (hs : s.size ≤ 4000) (ha : x.a ≤ s.size)
    (h : RD w b s x it) :
    Calls Tryz.prog 110 #[.pointer (some ⟨b, 0, none⟩)] w fun e w' => ∃ q, e = .returned (ptr q) ∧ RD w' b s (rword s x).1 it ∧ Kb b w w' ∧ ∀ d, RVal (d + 1) w.heap.size w'.heap.size w' q (rword s x).2 := by
  cases hm : ris s x 45
  · cases hp : ris s x 43
    · exact word_ff b s x it w hs ha h hm hp
    · exact word_ft b s x it w hs ha h hm hp
  · cases hp : ris s x 43
    · exact word_tf b s x it w hs ha h hm hp
    · exfalso
      simp only [ris, decide_eq_true_eq] at hm hp
      omega
end Go.Proofs.YtdebjhdafnpfkaaGreatDoor
