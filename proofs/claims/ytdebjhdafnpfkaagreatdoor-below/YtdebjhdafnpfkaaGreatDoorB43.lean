import Derived.Test.YtdebjhdafnpfkaaGreatDoorB42
import Derived.Test.YtdebjhdafnpfkaaGreatDoorTie
import Derived.Test.YtdebjhdafnpfkaaGreatDoorCards
import Derived.SevenTiedAt
namespace Go.Proofs.YtdebjhdafnpfkaaGreatDoor
open Go.ChangeShapes Go.WideShapes Go.ChangeAt Go.RowKit
set_option linter.unusedVariables false
set_option linter.unusedSimpArgs false
theorem chain_at : ∀ (L : List ByteArray) (p : Option ByteArray), ChainOk p L → ∀ (i : Nat) (l : ByteArray), L[i]? = some l → StepOk (if i = 0 then p else L[i - 1]?) l
  | [], _, _, i, l, h => by simp at h
  | a :: L, p, hc, 0, l, h => by
    simp only [List.getElem?_cons_zero, Option.some.injEq] at h
    subst h
    exact hc.1
  | a :: L, p, hc, i + 1, l, h => by
    rw [List.getElem?_cons_succ] at h
    have := chain_at L (some a) hc.2 i l h
    rw [if_neg (by omega), Nat.add_sub_cancel]
    cases i with
    | zero => exact this
    | succ i =>
      rw [if_neg (by omega), Nat.add_sub_cancel] at this
      exact this
theorem chain_end : ∀ (L : List ByteArray) (p : Option ByteArray), ChainOk p L → ∀ (l : ByteArray), L[L.length - 1]? = some l → l.size ≠ 0
  | [], _, _, l, h => by simp at h
  | [a], p, hc, l, h => by
    simp only [List.length_cons, List.length_nil, Nat.zero_add, Nat.sub_self, List.getElem?_cons_zero, Option.some.injEq] at h
    subst h
    exact hc.2 _ rfl
  | a :: b :: L, p, hc, l, h => by
    refine chain_end (b :: L) (some a) hc.2 l ?_
    rw [← h]
    simp only [List.length_cons, Nat.add_sub_cancel]
    rw [List.getElem?_cons_succ]
theorem sgn_rng (s : ByteArray) : -1 ≤ sgnI s ∧ sgnI s ≤ s.size := by
  unfold sgnI
  split
  · omega
  · split <;> omega
theorem lines_size (s : ByteArray) : ∀ i, i ≤ s.size → ∀ l ∈ (lnsAt s i).1, l.size ≤ s.size
  | 0, _, l, h => by simp [lnsAt] at h
  | i + 1, hi, l, h => by
    unfold lnsAt at h
    split at h
    · rcases List.mem_append.1 h with h | h
      · exact lines_size s i (by omega) l h
      · rw [List.mem_singleton] at h
        subst h
        rw [ByteArray.size_extract]
        omega
    · exact lines_size s i (by omega) l h
theorem run_last (x : ByteArray) (h : 0 < x.size) (W : World) : (Instr.index 9 (.string x) (.int .i64 ((x.size : Int) - 1))).run Tryz.prog W = .ok (.int .u8 (bt x (x.size - 1) : Nat)) W := by
  rw [run_index_string (P := Tryz.prog) W 9 x .i64 _ Tryz.underlying9, dif_pos (by omega), bt_get x (x.size - 1) (by omega)]
  have e : ((x.size : Int) - 1).toNat = x.size - 1 := by omega
  simp only [e]
set_option maxRecDepth 100000 in
set_option maxHeartbeats 4000000 in
/-- Below is true. -/
theorem below_law (raw : List Int) (rv : Value) (T : Nat → Nat) (m : Int) (w : World) (hw : WOk T m w) (hs : SubRow w rv raw.length (raw.map (Value.int .i64 ·))) (hr : ∀ x ∈ raw, -9223372036854775808 ≤ x ∧ x ≤ 9223372036854775807) (hlen : raw.length ≤ 9223372036854775807) :
    Calls Tryz.prog 9 #[rv] w fun e w' => e = .returned (.bool true) ∧ Below w.heap.size w w' := by
  have HW := hid hw
  have HS := hid hs
  have HR := hid hr
  clear hw hs hr
  obtain ⟨K, hK⟩ : ∃ K, K = min raw.length 20 := ⟨_, rfl⟩
  have hK20 : K ≤ 20 := by omega
  have HK := hid hK
  clear hK
  have HZ := hid (mk_size raw K)
  go_enter Tryz.func9, Tryz.ntmps9
  go_wp2_with fail
  refine (known_true w m HW.out.m HW.out.g).mono ?_
  rintro e w1 ⟨rfl, hB1⟩
  have HB1 := hid hB1
  have HW1 := hid (HW.out.below hB1)
  have HS1 := hid (HS.out.below hB1)
  have hz1 := hB1.size
  clear hB1 HW HS
  go_wp2_with fail
  refine (made_any one_any raw rv w1 HS1.out HR.out hlen K HK.out).mono ?_
  rintro e w2 ⟨pav, tsv, rfl, hown, hB2⟩
  have HB2 := hid (HB1.out.trans (hB2.mono hz1))
  have HW2 := hid (HW1.out.below hB2)
  have hz2 := hB2.size
  clear hB2 hown HB1 HW1 HS1
  by_cases h4 : 4000 < (mkO raw K).size
  · have t4 : decide ((4000 : Int) < ((mkO raw K).size : Int)) = true := by simp; omega
    go_wp2_with fail
    go_ret
    exact ⟨rfl, HB2.out⟩
  · have t4 : decide ((4000 : Int) < ((mkO raw K).size : Int)) = false := by simp; omega
    have RO := hid (read_odd raw K hK20 (by omega))
    go_wp2_with fail
    refine (parse_ok _ _ _ w2 m RO.out (by omega) HW2.out.m HW2.out.g).mono ?_
    rintro e w3 ⟨d, q, rfl, d1, d2, d3, hsh, hB3⟩
    have hz3 := hB3.size
    have HB3 := hid (HB2.out.trans (hB3.mono (by omega)))
    have HW3 := hid (HW2.out.below hB3)
    have HP3 := hid hsh
    clear hB3 hsh HB2 HW2 RO
    obtain ⟨L, hL⟩ : ∃ L, L = layOf (flatV (fnT T)) 200 (itO raw K) := ⟨_, rfl⟩
    have HC : Hid (ChainOk none L) := by unfold Hid; rw [hL]; exact chain_made (fn_ok T) 200 raw K hK20
    obtain ⟨X, hX⟩ : ∃ X, X = textOf L := ⟨_, rfl⟩
    have HX : Hid (textOf (layOf (flatV (fnT T)) 200 (itO raw K)) = X) := by unfold Hid; rw [hX, hL]
    have HLN : Hid (linesOf X = L) := by unfold Hid; rw [hX, hL]; exact lines_laid (fn_ok T) 200 raw K hK20
    clear hL hX
    go_wp2_with fail
    refine (format_any T 200 (by omega) (by omega) _ d q w2 w3 d3 HP3.out HW3.out.t HW3.out.lt (lay_itO raw K)).mono ?_
    rintro e w4 ⟨rfl, hB4, hXs⟩
    rw [HX.out] at hXs
    rw [HX.out]
    have hz4 := hB4.size
    have HB4 := hid (HB3.out.trans (hB4.mono (by omega)))
    clear hB4 HB3 HW3 HP3 HX
    go_wp2_with fail
    refine (lines_any X w4 hXs).mono ?_
    rintro e w5 ⟨lv, rfl, hown, hB5⟩
    have HSZ : Hid (∀ l ∈ L, l.size ≤ X.size) := by
      unfold Hid
      rw [← HLN.out]
      exact lines_size X X.size (Nat.le_refl _)
    have hLl : L.length ≤ X.size := by rw [← HLN.out]; exact lns_len X X.size
    rw [HLN.out] at hown
    have hz5 := hB5.size
    have HB5 := hid (HB4.out.trans (hB5.mono (by omega)))
    have HO5 := hid hown
    obtain ⟨al, cl, el⟩ := owns_form hown
    subst el
    clear hB5 hown HB4 HLN
    go_wp2_with fail
    go_loopw [13] (fun i wr => ∃ k : Nat, k ≤ L.length ∧ i = .int .i64 k ∧ ∃ n, wr = w5.drewN n) (fun i _ => L.length - (intOf i).toNat)
    case atStart => exact ⟨0, Nat.zero_le _, rfl, 0, rfl⟩
    case round =>
      obtain ⟨k, hk, rfl, n, rfl⟩ := hrel
      by_cases hkl : k < L.length
      · have t0 : decide (k < L.length) = true := by simpa using hkl
        have hx : L[k]? = some L[k] := List.getElem?_eq_getElem hkl
        have hst := chain_at L none HC.out k L[k] hx
        have hen : k = L.length - 1 → L[k].size ≠ 0 := fun e => chain_end L none HC.out L[k] (by rw [← e]; exact hx)
        have hxz := HSZ.out L[k] (List.getElem_mem hkl)
        obtain ⟨g, eg, _, _, hc1⟩ := rowv_cell HO5.out k (.string L[k]) (by rw [List.getElem?_map, hx]; rfl)
        subst eg
        generalize L[k] = x at *
        by_cases hk0 : k = 0
        · subst hk0
          have hxn : x.size ≠ 0 := fun e => by obtain ⟨q, hq, _⟩ := hst.1 e; cases hq
          have hx0 : 0 < x.size := by omega
          have hla := (hst.2 hxn).1
          have te : x.toList.isEmpty = false := by rw [toList_empty]; exact decide_eq_false (by omega)
          have hix := run_last x hx0
          have tl : (((bt x (x.size - 1) : Nat) : Int) == 32) = false := by simp; omega
          clear hst hen hla hx
          go_wp2_with fail
          go_quiet (fail)
          go_wp2_with fail
          exact ⟨⟨1, by omega, rfl, _, rfl⟩, by simp [intOf]; omega⟩
        · obtain ⟨j, rfl⟩ : ∃ j, k = j + 1 := ⟨k - 1, by omega⟩
          have hjl : j < L.length := by omega
          have hy : L[j]? = some L[j] := List.getElem?_eq_getElem hjl
          have hyz := HSZ.out L[j] (List.getElem_mem hjl)
          obtain ⟨g', eg, _, _, hc2⟩ := rowv_cell HO5.out j (.string L[j]) (by rw [List.getElem?_map, hy]; rfl)
          simp only [Option.some.injEq, Addr.mk.injEq, and_true] at eg
          subst eg
          rw [if_neg (by omega), Nat.add_sub_cancel, hy] at hst
          generalize L[j] = y at *
          have v1 : decide ((0 : Int) < (j : Int) + 1) = true := decide_eq_true (by omega)
          have v2 : ((j : Int) + 1 == 0) = false := by simp; omega
          by_cases hxn : x.size = 0
          · have hyn : y.size ≠ 0 := by obtain ⟨q, hq, h⟩ := hst.1 hxn; cases hq; exact h
            have hnl : j + 1 ≠ L.length - 1 := fun e => hen e hxn
            have te : x.toList.isEmpty = true := by rw [toList_empty]; exact decide_eq_true hxn
            have ty : y.toList.isEmpty = false := by rw [toList_empty]; exact decide_eq_false hyn
            have v3 : ((j : Int) + 1 == (L.length : Int) - 1) = false := by simp; omega
            clear hst hen hx hy
            go_wp2_with fail
            exact ⟨⟨j + 1 + 1, by omega, by go_num, _, rfl⟩, by simp [intOf]; omega⟩
          · have hx0 : 0 < x.size := by omega
            have te : x.toList.isEmpty = false := by rw [toList_empty]; exact decide_eq_false hxn
            have hla := (hst.2 hxn).1
            have HHD := hid ((hst.2 hxn).2 y rfl).1
            have HAB := hid ((hst.2 hxn).2 y rfl).2
            have hix := run_last x hx0
            have tl : (((bt x (x.size - 1) : Nat) : Int) == 32) = false := by simp; omega
            have hb0 := bt_get x 0 hx0
            clear hst hen hx hy
            rcases hv3 : ((j : Int) + 1 == (L.length : Int) - 1) with _ | _
            · by_cases hh : bt x 0 = 91
              · have th : ((x[0].toNat : Int) == 91) = true := by simp; omega
                have hhd := HHD.out hh
                by_cases hyn : y.size = 0
                · have ty : y.toList.isEmpty = true := by rw [toList_empty]; exact decide_eq_true hyn
                  clear hb0 hhd HHD hla
                  go_wp2_with fail
                  go_quiet (fail)
                  go_wp2_with fail
                  refine (sign_any y _ (by omega)).mono ?_
                  rintro e wa ⟨rfl, na, hwa⟩
                  rw [hwa]
                  clear hwa
                  go_wp2_with fail
                  refine (sign_any x _ (by omega)).mono ?_
                  rintro e wb ⟨rfl, nb, hwb⟩
                  rw [hwb]
                  clear hwb
                  have hra := sgn_rng y
                  have hrb := sgn_rng x
                  have hab := HAB.out
                  generalize sgnI y = a at *
                  generalize sgnI x = b at *
                  rcases (by omega : a < 0 ∨ (0 ≤ a ∧ b < 0) ∨ (0 ≤ a ∧ 0 ≤ b ∧ a = b)) with h1 | ⟨h1, h2⟩ | ⟨h1, h2, h3⟩
                  · have u1 : decide (0 ≤ a) = false := decide_eq_false (by omega)
                    clear hab HAB
                    go_wp2_with fail
                    exact ⟨⟨j + 1 + 1, by omega, by go_num, _, rfl⟩, by simp [intOf]; omega⟩
                  · have u1 : decide (0 ≤ a) = true := decide_eq_true h1
                    have u2 : decide (0 ≤ b) = false := decide_eq_false (by omega)
                    clear hab HAB
                    go_wp2_with fail
                    exact ⟨⟨j + 1 + 1, by omega, by go_num, _, rfl⟩, by simp [intOf]; omega⟩
                  · subst h3
                    have u1 : decide (0 ≤ a) = true := decide_eq_true h1
                    clear hab HAB h2
                    go_wp2_with fail
                    exact ⟨⟨j + 1 + 1, by omega, by go_num, _, rfl⟩, by simp [intOf]; omega⟩
                · have ty : y.toList.isEmpty = false := by rw [toList_empty]; exact decide_eq_false hyn
                  have hy0 : 0 < y.size := by omega
                  have hb1 := bt_get y 0 hy0
                  have t35 : ((y[0].toNat : Int) == 35) = true := by rcases hhd with h | h; exact absurd h hyn; simp; omega
                  clear hb0 hb1 hhd HHD hla
                  go_wp2_with fail
                  go_quiet (fail)
                  go_wp2_with fail
                  refine (sign_any y _ (by omega)).mono ?_
                  rintro e wa ⟨rfl, na, hwa⟩
                  rw [hwa]
                  clear hwa
                  go_wp2_with fail
                  refine (sign_any x _ (by omega)).mono ?_
                  rintro e wb ⟨rfl, nb, hwb⟩
                  rw [hwb]
                  clear hwb
                  have hra := sgn_rng y
                  have hrb := sgn_rng x
                  have hab := HAB.out
                  generalize sgnI y = a at *
                  generalize sgnI x = b at *
                  rcases (by omega : a < 0 ∨ (0 ≤ a ∧ b < 0) ∨ (0 ≤ a ∧ 0 ≤ b ∧ a = b)) with h1 | ⟨h1, h2⟩ | ⟨h1, h2, h3⟩
                  · have u1 : decide (0 ≤ a) = false := decide_eq_false (by omega)
                    clear hab HAB
                    go_wp2_with fail
                    exact ⟨⟨j + 1 + 1, by omega, by go_num, _, rfl⟩, by simp [intOf]; omega⟩
                  · have u1 : decide (0 ≤ a) = true := decide_eq_true h1
                    have u2 : decide (0 ≤ b) = false := decide_eq_false (by omega)
                    clear hab HAB
                    go_wp2_with fail
                    exact ⟨⟨j + 1 + 1, by omega, by go_num, _, rfl⟩, by simp [intOf]; omega⟩
                  · subst h3
                    have u1 : decide (0 ≤ a) = true := decide_eq_true h1
                    clear hab HAB h2
                    go_wp2_with fail
                    exact ⟨⟨j + 1 + 1, by omega, by go_num, _, rfl⟩, by simp [intOf]; omega⟩
              · have th : ((x[0].toNat : Int) == 91) = false := by simp; omega
                clear hb0 HHD hla
                go_wp2_with fail
                go_quiet (fail)
                go_wp2_with fail
                refine (sign_any y _ (by omega)).mono ?_
                rintro e wa ⟨rfl, na, hwa⟩
                rw [hwa]
                clear hwa
                go_wp2_with fail
                refine (sign_any x _ (by omega)).mono ?_
                rintro e wb ⟨rfl, nb, hwb⟩
                rw [hwb]
                clear hwb
                have hra := sgn_rng y
                have hrb := sgn_rng x
                have hab := HAB.out
                generalize sgnI y = a at *
                generalize sgnI x = b at *
                rcases (by omega : a < 0 ∨ (0 ≤ a ∧ b < 0) ∨ (0 ≤ a ∧ 0 ≤ b ∧ a = b)) with h1 | ⟨h1, h2⟩ | ⟨h1, h2, h3⟩
                · have u1 : decide (0 ≤ a) = false := decide_eq_false (by omega)
                  clear hab HAB
                  go_wp2_with fail
                  exact ⟨⟨j + 1 + 1, by omega, by go_num, _, rfl⟩, by simp [intOf]; omega⟩
                · have u1 : decide (0 ≤ a) = true := decide_eq_true h1
                  have u2 : decide (0 ≤ b) = false := decide_eq_false (by omega)
                  clear hab HAB
                  go_wp2_with fail
                  exact ⟨⟨j + 1 + 1, by omega, by go_num, _, rfl⟩, by simp [intOf]; omega⟩
                · subst h3
                  have u1 : decide (0 ≤ a) = true := decide_eq_true h1
                  clear hab HAB h2
                  go_wp2_with fail
                  exact ⟨⟨j + 1 + 1, by omega, by go_num, _, rfl⟩, by simp [intOf]; omega⟩
            · by_cases hh : bt x 0 = 91
              · have th : ((x[0].toNat : Int) == 91) = true := by simp; omega
                have hhd := HHD.out hh
                by_cases hyn : y.size = 0
                · have ty : y.toList.isEmpty = true := by rw [toList_empty]; exact decide_eq_true hyn
                  clear hb0 hhd HHD hla
                  go_wp2_with fail
                  go_quiet (fail)
                  go_wp2_with fail
                  refine (sign_any y _ (by omega)).mono ?_
                  rintro e wa ⟨rfl, na, hwa⟩
                  rw [hwa]
                  clear hwa
                  go_wp2_with fail
                  refine (sign_any x _ (by omega)).mono ?_
                  rintro e wb ⟨rfl, nb, hwb⟩
                  rw [hwb]
                  clear hwb
                  have hra := sgn_rng y
                  have hrb := sgn_rng x
                  have hab := HAB.out
                  generalize sgnI y = a at *
                  generalize sgnI x = b at *
                  rcases (by omega : a < 0 ∨ (0 ≤ a ∧ b < 0) ∨ (0 ≤ a ∧ 0 ≤ b ∧ a = b)) with h1 | ⟨h1, h2⟩ | ⟨h1, h2, h3⟩
                  · have u1 : decide (0 ≤ a) = false := decide_eq_false (by omega)
                    clear hab HAB
                    go_wp2_with fail
                    exact ⟨⟨j + 1 + 1, by omega, by go_num, _, rfl⟩, by simp [intOf]; omega⟩
                  · have u1 : decide (0 ≤ a) = true := decide_eq_true h1
                    have u2 : decide (0 ≤ b) = false := decide_eq_false (by omega)
                    clear hab HAB
                    go_wp2_with fail
                    exact ⟨⟨j + 1 + 1, by omega, by go_num, _, rfl⟩, by simp [intOf]; omega⟩
                  · subst h3
                    have u1 : decide (0 ≤ a) = true := decide_eq_true h1
                    clear hab HAB h2
                    go_wp2_with fail
                    exact ⟨⟨j + 1 + 1, by omega, by go_num, _, rfl⟩, by simp [intOf]; omega⟩
                · have ty : y.toList.isEmpty = false := by rw [toList_empty]; exact decide_eq_false hyn
                  have hy0 : 0 < y.size := by omega
                  have hb1 := bt_get y 0 hy0
                  have t35 : ((y[0].toNat : Int) == 35) = true := by rcases hhd with h | h; exact absurd h hyn; simp; omega
                  clear hb0 hb1 hhd HHD hla
                  go_wp2_with fail
                  go_quiet (fail)
                  go_wp2_with fail
                  refine (sign_any y _ (by omega)).mono ?_
                  rintro e wa ⟨rfl, na, hwa⟩
                  rw [hwa]
                  clear hwa
                  go_wp2_with fail
                  refine (sign_any x _ (by omega)).mono ?_
                  rintro e wb ⟨rfl, nb, hwb⟩
                  rw [hwb]
                  clear hwb
                  have hra := sgn_rng y
                  have hrb := sgn_rng x
                  have hab := HAB.out
                  generalize sgnI y = a at *
                  generalize sgnI x = b at *
                  rcases (by omega : a < 0 ∨ (0 ≤ a ∧ b < 0) ∨ (0 ≤ a ∧ 0 ≤ b ∧ a = b)) with h1 | ⟨h1, h2⟩ | ⟨h1, h2, h3⟩
                  · have u1 : decide (0 ≤ a) = false := decide_eq_false (by omega)
                    clear hab HAB
                    go_wp2_with fail
                    exact ⟨⟨j + 1 + 1, by omega, by go_num, _, rfl⟩, by simp [intOf]; omega⟩
                  · have u1 : decide (0 ≤ a) = true := decide_eq_true h1
                    have u2 : decide (0 ≤ b) = false := decide_eq_false (by omega)
                    clear hab HAB
                    go_wp2_with fail
                    exact ⟨⟨j + 1 + 1, by omega, by go_num, _, rfl⟩, by simp [intOf]; omega⟩
                  · subst h3
                    have u1 : decide (0 ≤ a) = true := decide_eq_true h1
                    clear hab HAB h2
                    go_wp2_with fail
                    exact ⟨⟨j + 1 + 1, by omega, by go_num, _, rfl⟩, by simp [intOf]; omega⟩
              · have th : ((x[0].toNat : Int) == 91) = false := by simp; omega
                clear hb0 HHD hla
                go_wp2_with fail
                go_quiet (fail)
                go_wp2_with fail
                refine (sign_any y _ (by omega)).mono ?_
                rintro e wa ⟨rfl, na, hwa⟩
                rw [hwa]
                clear hwa
                go_wp2_with fail
                refine (sign_any x _ (by omega)).mono ?_
                rintro e wb ⟨rfl, nb, hwb⟩
                rw [hwb]
                clear hwb
                have hra := sgn_rng y
                have hrb := sgn_rng x
                have hab := HAB.out
                generalize sgnI y = a at *
                generalize sgnI x = b at *
                rcases (by omega : a < 0 ∨ (0 ≤ a ∧ b < 0) ∨ (0 ≤ a ∧ 0 ≤ b ∧ a = b)) with h1 | ⟨h1, h2⟩ | ⟨h1, h2, h3⟩
                · have u1 : decide (0 ≤ a) = false := decide_eq_false (by omega)
                  clear hab HAB
                  go_wp2_with fail
                  exact ⟨⟨j + 1 + 1, by omega, by go_num, _, rfl⟩, by simp [intOf]; omega⟩
                · have u1 : decide (0 ≤ a) = true := decide_eq_true h1
                  have u2 : decide (0 ≤ b) = false := decide_eq_false (by omega)
                  clear hab HAB
                  go_wp2_with fail
                  exact ⟨⟨j + 1 + 1, by omega, by go_num, _, rfl⟩, by simp [intOf]; omega⟩
                · subst h3
                  have u1 : decide (0 ≤ a) = true := decide_eq_true h1
                  clear hab HAB h2
                  go_wp2_with fail
                  exact ⟨⟨j + 1 + 1, by omega, by go_num, _, rfl⟩, by simp [intOf]; omega⟩
      · have t0 : decide (k < L.length) = false := by simpa using hkl
        go_wp2_with fail
        go_ret
        exact ⟨rfl, qbelow_drewN HB5.out _⟩
end Go.Proofs.YtdebjhdafnpfkaaGreatDoor

namespace Go.Proofs.YtdebjhdafnpfkaaGreatDoor
open Go.ChangeShapes Go.WideShapes Go.ChangeAt Go.ChangeMaps Go.RowKit
set_option linter.unusedVariables false
set_option linter.unusedSimpArgs false
set_option maxRecDepth 100000 in
theorem below_lifted (os : Os) (started : os.Started) (H : Type) (enc : TypeId × Value → H) :
    ReturnsInHanded {} Tryz.checked os 9 .any (fun w args => (Rows.belowSpec.pre enc Tryz.prog Tryz.f9 [] false w args ∧ laidMetH Tryz.prog theLaid w) ∧ sizedMet enc Tryz.prog Tryz.f9 (OpenSpec.ofChange Rows.belowSpec) false w args)
      (Rows.belowSpec.post enc Tryz.prog Tryz.f9 false true false false) := by
  refine handed_both (C := Tryz.checked) (X := fun w _ => laidMetH Tryz.prog theLaid w) (fun _ _ _ hh h => h.of_heap hh) Tryz.own started (by kernel_rfl) Tryz.func9
    (ChangeSpec.witness_shaped (enc := enc) (C := Tryz.checked) (os := os) (X := fun w _ => laidMetH Tryz.prog theLaid w) false (withHandle (World.laidAll Tryz.prog os theData)) #[.slice none 0 0] 8 (laidWorld_os os) (World.shaped_of_ZipB (by kernel_rfl) (by kernel_rfl)) (by kernel_rfl) (by kernel_rfl) (by kernel_rfl) (laidWorld_met os _)) ?_
  intro W base args ds gs before hval0 hW hwt hL hsh
  have hval : ∀ (j : Nat) t v, Tryz.f9.params[j]? = some t → args[j]? = some v → Value.okWide Tryz.prog W .any base t v := hval0
  have hW' := hW
  obtain ⟨p, q, hA0, hV, rfl, _, _⟩ := hW
  have hA : DataW.TrodAll enc Tryz.prog W 0 (fun _ => true) true Tryz.f9.params.toList args.toList ds p := hA0
  rw [Tryz.params9] at hA hval
  obtain ⟨v0, d0, rfl, rfl, h0⟩ := trodAll_one hA
  obtain ⟨rfl, rfl⟩ := trodVars_none hV
  have k0 := h0
  have lt0 : ∀ x ∈ p, x.block < W.heap.size := by obtain ⟨m, hm⟩ := k0; exact DataW.trod_lt m _ _ _ hm
  obtain ⟨raw, hs, hr, hlen⟩ := raw_of (hval 0 49 v0 rfl rfl) h0
  obtain ⟨T, m, hw⟩ := wok_of hL hsh
  clear hA0 hval0
  refine (below_law raw v0 T m W hw hs hr hlen).mono fun e W' ⟨he, hb⟩ => ?_
  subst he
  exact ⟨_, rfl, _, _, _, [], _, [], hW', trodAll_mk1 (shut_bool Tryz.underlying4 _), trodAll_mk1 (Below.trod Tryz.laidOut (by kernel_rfl) (of_decide_eq_true (by kernel_rfl)) k0 hb lt0), rfl, hb.frame _, fun h => by cases h⟩
theorem below_row : Rows.BelowSaid :=
  OpenClaim.holds_of_wide 9 Tryz.f9 rfl rfl rfl rfl rfl rfl rfl ⟨rfl, rfl, rfl, rfl, rfl⟩ rfl rfl rfl rfl rfl (by kernel_rfl) Tryz.func9 (by kernel_rfl)
    (of_decide_eq_true (by kernel_rfl)) (by unfold Func.isWrapper; rw [if_neg (of_decide_eq_false (by kernel_rfl))]; exact ⟨rfl, rfl⟩)
    (fun os started H enc _ => below_lifted os started H enc)
theorem below_holds : Rows.BelowCardSaid :=
  Claim7.holds_tied_plain_at .later [] [.data, .handle, .pinned] true (true, "6be3ddb04e93f81475ddec5d186431647b4d5db122d404762c467cab1b275509") true below_row (fun _ h => by cases h) (by kernel_rfl) (fun _ h => by cases h) below_row_tie rfl ⟨rfl, rfl⟩ (by kernel_rfl) rfl
    (fun f fn hf hfn => by
      obtain rfl : f = 9 := Option.some.inj ((show Tryz.prog.funcNamed "hem/hemkeep.Below" = some 9 by kernel_rfl).symm.trans hf) |>.symm
      obtain rfl : fn = Tryz.f9 := (Option.some.inj (Tryz.func9.symm.trans hfn)).symm
      exact ⟨by kernel_rfl, fun j t ht => by
        rw [Tryz.params9] at ht
        have hm : t ∈ [49] := by simpa using Array.mem_of_getElem? ht
        have hall : ([49].all fun u => !Tryz.prog.wantsStandIn u) = true := by kernel_rfl
        exact (show Tryz.prog.wantsStandIn t = false by simpa using List.all_eq_true.1 hall t hm)⟩)
    (by kernel_rfl)
end Go.Proofs.YtdebjhdafnpfkaaGreatDoor
