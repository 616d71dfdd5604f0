import Derived.Test.YtdebjhdafnpfkabGreatDoorK42
import Derived.Test.YtdebjhdafnpfkabGreatDoorTie
import Derived.Test.YtdebjhdafnpfkabGreatDoorCards
import Derived.SevenTiedAt
namespace Go.Proofs.YtdebjhdafnpfkabGreatDoor
open Go.ChangeShapes Go.WideShapes Go.ChangeAt Go.RowKit
set_option linter.unusedVariables false
set_option linter.unusedSimpArgs false
theorem scI_end {x : ByteArray} {j : Nat} (h : x.size ≤ j) : ∀ n b, scI x n j b = none
  | 0, b => rfl
  | n + 1, b => by unfold scI; rw [if_pos h]
theorem scI_skip {x : ByteArray} {n j : Nat} (h : j < x.size) (hc : bt x j = 92) : scI x (n + 1) j true = scI x n (j + 2) true := by
  conv => lhs; unfold scI
  rw [if_neg (by omega), if_pos ⟨rfl, hc⟩]
theorem scI_quote {x : ByteArray} {n j : Nat} {b : Bool} (h : j < x.size) (hc : bt x j = 34) : scI x (n + 1) j b = scI x n (j + 1) (!b) := by
  conv => lhs; unfold scI
  rw [if_neg (by omega), if_neg (by rintro ⟨_, h⟩; omega), if_neg (by rintro ⟨h, _⟩; omega), if_pos hc]
theorem scI_hit {x : ByteArray} {n j : Nat} (h : j < x.size) (hc : bt x j = 35) : scI x (n + 1) j false = some j := by
  conv => lhs; unfold scI
  rw [if_neg (by omega), if_neg (by rintro ⟨h, _⟩; cases h), if_pos ⟨hc, by rw [if_neg (by omega)]⟩]
theorem scI_on {x : ByteArray} {n j : Nat} {b : Bool} (h : j < x.size) (h1 : ¬ (b = true ∧ bt x j = 92)) (h2 : bt x j ≠ 34) (h3 : ¬ (bt x j = 35 ∧ b = false)) : scI x (n + 1) j b = scI x n (j + 1) b := by
  conv => lhs; unfold scI
  rw [if_neg (by omega), if_neg h1, if_neg h2, if_neg h3]
theorem rms_take {L : List ByteArray} {k : Nat} {x : ByteArray} (h : L[k]? = some x) : rmsOf (L.take (k + 1)) = rmsOf (L.take k) ++ (rmLine x).toList := by
  rw [List.take_add_one, h, rms_app]
  congr 1
theorem rms_len (L : List ByteArray) : (rmsOf L).length ≤ L.length := List.length_filterMap_le _ _
set_option maxRecDepth 100000 in
set_option maxHeartbeats 2000000 in
/-- The remarks of any text. -/
theorem remarks_any (s : ByteArray) (w : World) (hs : s.size ≤ 20000000000) :
    Calls Tryz.prog 14 #[.string s] w fun e w' => ∃ lv base, e = .returned lv ∧ w.heap.size ≤ base ∧ w'.ownsRow base 9 1 lv (rmsOf (linesOf s)).length ((rmsOf (linesOf s)).map .string) ∧ Below w.heap.size w w' := by
  obtain ⟨i0, hi, hz0, hz1, hz2⟩ := info_parts info_string
  have hLl0 : (linesOf s).length ≤ s.size := lns_len s s.size
  have hsz0 : ∀ l ∈ linesOf s, l.size ≤ s.size := lines_size s s.size (Nat.le_refl _)
  obtain ⟨L, hL⟩ : ∃ L, L = linesOf s := ⟨_, rfl⟩
  rw [← hL] at hLl0 hsz0
  have HLE := hid hL
  have HSZ := hid hsz0
  have hLl : L.length ≤ 20000000000 := by omega
  clear hL hsz0
  go_enter Tryz.func14, Tryz.ntmps14
  go_wp2_with fail
  refine (lines_any s w hs).mono ?_
  rintro e w1 ⟨lv, rfl, hown, hB1⟩
  rw [← HLE.out] at hown
  have HO1 := hid hown
  have HB1 := hid hB1
  have hz1' := hB1.size
  obtain ⟨al, cl, el⟩ := owns_form hown
  subst el
  clear hown hB1
  go_wp2_with fail
  go_loopw [4, 5] (fun ov i wr => ∃ k : Nat, k ≤ L.length ∧ i = .int .i64 k ∧ ∃ rs : List ByteArray, Hid (rs = rmsOf (L.take k)) ∧ rs.length ≤ k ∧ Hid (wr.ownsRow w1.heap.size 9 1 ov rs.length (rs.map .string)) ∧ Hid (Below w1.heap.size w1 wr)) (fun _ i _ => L.length - (intOf i).toNat)
  case atStart => exact ⟨0, Nat.zero_le _, rfl, [], rfl, Nat.le_refl _, World.ownsRow_nil _ _ _ _, Below.refl _ _⟩
  case round =>
    obtain ⟨wo, hwo⟩ : ∃ wo, wo = wr := ⟨wr, rfl⟩
    subst hwo
    obtain ⟨k, hk, rfl, rs, hrs, hrl, hown, hbw⟩ := hrel
    obtain ⟨ao, co, eo⟩ := owns_form hown.out
    subst eo
    by_cases hkl : k < L.length
    · have t0 : decide (k < L.length) = true := by simpa using hkl
      have hx : L[k]? = some L[k] := List.getElem?_eq_getElem hkl
      have hxz := HSZ.out L[k] (List.getElem_mem hkl)
      have HOw := hid (owns_frame HO1.out (fun j j1 j2 => hbw.out.block j j2))
      obtain ⟨g, eg, _, _, hc1⟩ := rowv_cell HOw.out k (.string L[k]) (by rw [List.getElem?_map, hx]; rfl)
      subst eg
      have HRT := hid (rms_take hx)
      generalize L[k] = x at *
      clear hx
      go_wp2_with fail
      go_loopw [4, 6, 7] (fun ov bv jv wr => ov = .slice ao rs.length co ∧ ∃ (j n : Nat) (b : Bool), jv = .int .i64 j ∧ bv = .bool b ∧ j ≤ x.size + 1 ∧ x.size + 1 ≤ n + j ∧ Hid (scI x (x.size + 1) 0 false = scI x n j b) ∧ ∃ m, wr = wo.drewN m) (fun _ _ jv _ => x.size + 2 - (intOf jv).toNat)
      case atStart => exact ⟨rfl, 0, x.size + 1, false, rfl, rfl, by omega, by omega, rfl, 0, rfl⟩
      case round =>
        obtain ⟨rfl, j, n, b, rfl, rfl, hj, hn, hsc, m, rfl⟩ := hrel
        by_cases hjl : j < x.size
        · have t1 : decide (j < x.size) = true := by simpa using hjl
          obtain ⟨n', rfl⟩ : ∃ n', n = n' + 1 := ⟨n - 1, by omega⟩
          have hbj := bt_get x j hjl
          by_cases c34 : bt x j = 34
          · have u1 : ((x[j].toNat : Int) == 34) = true := by simp; omega
            have u2 : ((x[j].toNat : Int) == 92) = false := by simp; omega
            have u3 : ((x[j].toNat : Int) == 35) = false := by simp; omega
            cases b
            · skip
              have HS2 : Hid (scI x (x.size + 1) 0 false = scI x n' (j + 1) true) := by unfold Hid; rw [hsc.out, scI_quote hjl c34, Bool.not_false]
              clear hsc hbj
              go_wp2_with fail
              exact ⟨⟨rfl, j + 1, n', true, by go_num, rfl, by omega, by omega, HS2, _, rfl⟩, by simp [intOf]; omega⟩
            · skip
              have HS2 : Hid (scI x (x.size + 1) 0 false = scI x n' (j + 1) false) := by unfold Hid; rw [hsc.out, scI_quote hjl c34, Bool.not_true]
              clear hsc hbj
              go_wp2_with fail
              exact ⟨⟨rfl, j + 1, n', false, by go_num, rfl, by omega, by omega, HS2, _, rfl⟩, by simp [intOf]; omega⟩
          · have u1 : ((x[j].toNat : Int) == 34) = false := by simp; omega
            by_cases c35 : bt x j = 35
            · have u2 : ((x[j].toNat : Int) == 92) = false := by simp; omega
              have u3 : ((x[j].toNat : Int) == 35) = true := by simp; omega
              cases b
              · have HL : Hid (rmLine x = some (x.extract j x.size)) := by unfold Hid rmLine; rw [hsc.out, scI_hit hjl c35]; rfl
                have HRS : Hid (rs ++ [x.extract j x.size] = rmsOf (L.take (k + 1))) := by unfold Hid; rw [HRT.out, ← hrs.out, HL.out]; rfl
                have hsl : ∀ W : World, (Instr.slice 9 (.string x) (some (.int .i64 (j : Int))) none none).run Tryz.prog W = .ok (.string (x.extract j x.size)) W := fun W => by
                  rw [run_slice_string_from_if (P := Tryz.prog) W 9 x .i64 (j : Int) Tryz.underlying9, if_pos (by omega)]
                  simp
                obtain ⟨wi, hwi⟩ : ∃ wi, wi = wo.drewN m := ⟨_, rfl⟩
                have HOI : Hid (wi.ownsRow w1.heap.size 9 1 (.slice ao rs.length co) rs.length (rs.map .string)) := by rw [hwi]; exact hown.out
                have HBI : Hid (Below w1.heap.size w1 wi) := by rw [hwi]; exact qbelow_drewN hbw.out m
                have hcI : wi.cell? ⟨g, k, none⟩ = some (.string x) := by rw [hwi]; exact hc1
                have hzi := HBI.out.size
                rw [← hwi]
                clear hwi hc1 hsc hbj c34 c35 HL HRT hrs hown hbw HOw
                go_wp2_with (at_builtin; refine wpList_append_own_at _ rfl _ _ 25 rfl w1.heap.size 9 i0 (.string ⟨#[]⟩) 1 16 Tryz.underlying25 hi hz0 hz1 hz2 rfl (by decide) _ _ _ rfl (HOI.out.alloc _) ⟨_, 0, none⟩ 1 1 [.string (x.extract j x.size)] rfl rfl (cell_one_new _ _ _) (by intro u hu; simp at hu; subst hu; rfl) (by unfold maxLen; omega) (by omega) (by simp; omega) ?_; intro v1 w6 hown6 hgrow6 hnil6 hat6; refine Hid.out ?_)
                have hb6 := hid ((HBI.out.alloc HBI.out.size _).grown hgrow6 (by simp; omega) (fun k hk => (HOI.out.lt k hk).1))
                have hown7 := hid hown6
                obtain ⟨a6, c6, e6⟩ := owns_form hown6
                subst e6
                clear hown6 hgrow6 hnil6 hat6
                unfold Hid
                go_wp2_with fail
                exact ⟨⟨k + 1, by omega, by go_num, rs ++ [x.extract j x.size], HRS, by simp; omega, by simpa using hown7, hb6⟩, by simp [intOf]; omega⟩
              · skip
                have HS2 : Hid (scI x (x.size + 1) 0 false = scI x n' (j + 1) true) := by unfold Hid; rw [hsc.out, scI_on hjl (by rintro ⟨_, h⟩; omega) (by omega) (by rintro ⟨_, h⟩; cases h)]
                clear hsc hbj
                go_wp2_with fail
                exact ⟨⟨rfl, j + 1, n', true, by go_num, rfl, by omega, by omega, HS2, _, rfl⟩, by simp [intOf]; omega⟩
            · have u3 : ((x[j].toNat : Int) == 35) = false := by simp; omega
              by_cases c92 : bt x j = 92
              · have u2 : ((x[j].toNat : Int) == 92) = true := by simp; omega
                cases b
                · skip
                  have HS2 : Hid (scI x (x.size + 1) 0 false = scI x n' (j + 1) false) := by unfold Hid; rw [hsc.out, scI_on hjl (by rintro ⟨h, _⟩; cases h) (by omega) (by rintro ⟨h, _⟩; omega)]
                  clear hsc hbj
                  go_wp2_with fail
                  exact ⟨⟨rfl, j + 1, n', false, by go_num, rfl, by omega, by omega, HS2, _, rfl⟩, by simp [intOf]; omega⟩
                · have HS2 : Hid (scI x (x.size + 1) 0 false = scI x n' (j + 2) true) := by unfold Hid; rw [hsc.out, scI_skip hjl c92]
                  clear hsc hbj
                  go_wp2_with fail
                  exact ⟨⟨rfl, j + 2, n', true, by go_num, rfl, by omega, by omega, HS2, _, rfl⟩, by simp [intOf]; omega⟩
              · have u2 : ((x[j].toNat : Int) == 92) = false := by simp; omega
                cases b
                · skip
                  have HS2 : Hid (scI x (x.size + 1) 0 false = scI x n' (j + 1) false) := by unfold Hid; rw [hsc.out, scI_on hjl (by rintro ⟨_, h⟩; omega) (by omega) (by rintro ⟨h, _⟩; omega)]
                  clear hsc hbj
                  go_wp2_with fail
                  exact ⟨⟨rfl, j + 1, n', false, by go_num, rfl, by omega, by omega, HS2, _, rfl⟩, by simp [intOf]; omega⟩
                · skip
                  have HS2 : Hid (scI x (x.size + 1) 0 false = scI x n' (j + 1) true) := by unfold Hid; rw [hsc.out, scI_on hjl (by rintro ⟨_, h⟩; omega) (by omega) (by rintro ⟨h, _⟩; omega)]
                  clear hsc hbj
                  go_wp2_with fail
                  exact ⟨⟨rfl, j + 1, n', true, by go_num, rfl, by omega, by omega, HS2, _, rfl⟩, by simp [intOf]; omega⟩
        · have t1 : decide (j < x.size) = false := by simpa using hjl
          have HN : Hid (rmLine x = none) := by
            unfold Hid rmLine
            rw [hsc.out, scI_end (by omega)]
            rfl
          have HRS : Hid (rs = rmsOf (L.take (k + 1))) := by unfold Hid; rw [HRT.out, HN.out, hrs.out]; exact (List.append_nil _).symm
          have HBI := hid (qbelow_drewN hbw.out m)
          clear hsc HN HRT hrs hbw
          go_wp2_with fail
          exact ⟨⟨k + 1, by omega, by go_num, rs, HRS, by omega, hown, HBI⟩, by simp [intOf]; omega⟩
    · have t0 : decide (k < L.length) = false := by simpa using hkl
      have hkL : k = L.length := by omega
      have FR : Hid (rmsOf (linesOf s) = rs) := by
        unfold Hid
        rw [← HLE.out, hrs.out, hkL, List.take_length]
      have HBF := hid (HB1.out.trans (hbw.out.mono hz1'))
      clear hrs
      go_wp2_with fail
      go_ret
      exact ⟨_, w1.heap.size, rfl, hz1', by rw [FR.out]; exact hown.out, HBF.out⟩
end Go.Proofs.YtdebjhdafnpfkabGreatDoor

namespace Go.Proofs.YtdebjhdafnpfkabGreatDoor
open Go.ChangeShapes Go.WideShapes Go.ChangeAt Go.RowKit
set_option linter.unusedVariables false
set_option linter.unusedSimpArgs false
set_option maxRecDepth 100000 in
set_option maxHeartbeats 4000000 in
/-- Kept is true. -/
theorem kept_law (raw : List Int) (rv : Value) (T : Nat → Nat) (m : Int) (w : World) (hw : WOk T m w) (hs : SubRow w rv raw.length (raw.map (Value.int .i64 ·))) (hr : ∀ x ∈ raw, -9223372036854775808 ≤ x ∧ x ≤ 9223372036854775807) (hlen : raw.length ≤ 9223372036854775807) :
    Calls Tryz.prog 4 #[rv] w fun e w' => e = .returned (.bool true) ∧ Below w.heap.size w w' := by
  have HW := hid hw
  have HS := hid hs
  have HR := hid hr
  clear hw hs hr
  obtain ⟨K, hK⟩ : ∃ K, K = min raw.length 20 := ⟨_, rfl⟩
  have hK20 : K ≤ 20 := by omega
  have HK := hid hK
  clear hK
  have HZ := hid (mk_size raw K)
  have hle := mk_le raw K
  have FP := hid (kept_plain raw K hK20)
  have FL := hid (kept_laid (fn_ok T) 200 raw K hK20)
  go_enter Tryz.func4, Tryz.ntmps4
  go_wp2_with fail
  refine (known_true w m HW.out.m HW.out.g).mono ?_
  rintro e w1 ⟨rfl, hB1⟩
  have HB1 := hid hB1
  have HW1 := hid (HW.out.below hB1)
  have HS1 := hid (HS.out.below hB1)
  have hz1 := hB1.size
  clear hB1 HW HS
  go_wp2_with fail
  refine (made_any one_any raw rv w1 HS1.out HR.out hlen K HK.out).mono ?_
  rintro e w2 ⟨pav, tsv, rfl, hown, hB2⟩
  have HB2 := hid (HB1.out.trans (hB2.mono hz1))
  have HW2 := hid (HW1.out.below hB2)
  have hz2 := hB2.size
  clear hB2 hown HB1 HW1 HS1
  by_cases h4 : 4000 < (mkO raw K).size
  · have t4 : decide ((4000 : Int) < ((mkO raw K).size : Int)) = true := by simp; omega
    go_wp2_with fail
    go_ret
    exact ⟨rfl, HB2.out⟩
  · have t4 : decide ((4000 : Int) < ((mkO raw K).size : Int)) = false := by simp; omega
    have RO := hid (read_odd raw K hK20 (by omega))
    go_wp2_with fail
    refine (parse_ok _ _ _ w2 m RO.out (by omega) HW2.out.m HW2.out.g).mono ?_
    rintro e w3 ⟨d, q, rfl, d1, d2, d3, hsh, hB3⟩
    have hz3 := hB3.size
    have HB3 := hid (HB2.out.trans (hB3.mono (by omega)))
    have HW3 := hid (HW2.out.below hB3)
    have HP3 := hid hsh
    clear hB3 hsh HB2 HW2 RO
    obtain ⟨R, hR⟩ : ∃ R, R = rml raw K := ⟨_, rfl⟩
    rw [← hR] at FP FL
    have hRl : R.length ≤ 4000 := by
      rw [← FP.out]
      refine Nat.le_trans (rms_len _) ?_
      refine Nat.le_trans (lns_len _ _) ?_
      omega
    obtain ⟨X, hX⟩ : ∃ X, X = textOf (layOf (flatV (fnT T)) 200 (itO raw K)) := ⟨_, rfl⟩
    have HX := hid hX
    rw [← hX] at FL
    clear hR hX
    go_wp2_with fail
    refine (format_any T 200 (by omega) (by omega) _ d q w2 w3 d3 HP3.out HW3.out.t HW3.out.lt (lay_itO raw K)).mono ?_
    rintro e w4 ⟨rfl, hB4, hXs⟩
    rw [← HX.out] at hXs
    rw [← HX.out]
    have hz4 := hB4.size
    have HB4 := hid (HB3.out.trans (hB4.mono (by omega)))
    clear hB4 HB3 HW3 HP3 HX
    go_wp2_with fail
    refine (remarks_any (mkP raw K) w4 (by omega)).mono ?_
    rintro e w5 ⟨lv, b5, rfl, hb5, hown, hB5⟩
    rw [FP.out] at hown
    have hz5 := hB5.size
    have HB5 := hid (HB4.out.trans (hB5.mono (by omega)))
    have HO5 := hid hown
    clear hB5 hown HB4
    go_wp2_with fail
    refine (remarks_any X w5 hXs).mono ?_
    rintro e w6 ⟨lv2, b6, rfl, hb6, hown, hB6⟩
    rw [FL.out] at hown
    have hz6 := hB6.size
    have HB6 := hid (HB5.out.trans (hB6.mono (by omega)))
    have HO6 := hid (owns_frame HO5.out (fun k k1 k2 => hB6.block k k2))
    have HP6 := hid hown
    clear hB6 hown HB5 HO5
    go_wp2_with fail
    refine (ksame_true _ _ lv lv2 _ w6 HO6.out HP6.out (by omega)).mono ?_
    rintro e w7 ⟨rfl, n7, hw7⟩
    rw [hw7]
    clear hw7
    have HB7 := hid (qbelow_drewN HB6.out n7)
    clear HB6 HO6 HP6
    go_wp2_with fail
    go_ret
    exact ⟨rfl, HB7.out⟩
end Go.Proofs.YtdebjhdafnpfkabGreatDoor

namespace Go.Proofs.YtdebjhdafnpfkabGreatDoor
open Go.ChangeShapes Go.WideShapes Go.ChangeAt Go.ChangeMaps Go.RowKit
set_option linter.unusedVariables false
set_option linter.unusedSimpArgs false
set_option maxRecDepth 100000 in
theorem kept_lifted (os : Os) (started : os.Started) (H : Type) (enc : TypeId × Value → H) :
    ReturnsInHanded {} Tryz.checked os 4 .any (fun w args => (Rows.keptSpec.pre enc Tryz.prog Tryz.f4 [] false w args ∧ laidMetH Tryz.prog theLaid w) ∧ sizedMet enc Tryz.prog Tryz.f4 (OpenSpec.ofChange Rows.keptSpec) false w args)
      (Rows.keptSpec.post enc Tryz.prog Tryz.f4 false true false false) := by
  refine handed_both (C := Tryz.checked) (X := fun w _ => laidMetH Tryz.prog theLaid w) (fun _ _ _ hh h => h.of_heap hh) Tryz.own started (by kernel_rfl) Tryz.func4
    (ChangeSpec.witness_shaped (enc := enc) (C := Tryz.checked) (os := os) (X := fun w _ => laidMetH Tryz.prog theLaid w) false (withHandle (World.laidAll Tryz.prog os theData)) #[.slice none 0 0] 8 (laidWorld_os os) (World.shaped_of_ZipB (by kernel_rfl) (by kernel_rfl)) (by kernel_rfl) (by kernel_rfl) (by kernel_rfl) (laidWorld_met os _)) ?_
  intro W base args ds gs before hval0 hW hwt hL hsh
  have hval : ∀ (j : Nat) t v, Tryz.f4.params[j]? = some t → args[j]? = some v → Value.okWide Tryz.prog W .any base t v := hval0
  have hW' := hW
  obtain ⟨p, q, hA0, hV, rfl, _, _⟩ := hW
  have hA : DataW.TrodAll enc Tryz.prog W 0 (fun _ => true) true Tryz.f4.params.toList args.toList ds p := hA0
  rw [Tryz.params4] at hA hval
  obtain ⟨v0, d0, rfl, rfl, h0⟩ := trodAll_one hA
  obtain ⟨rfl, rfl⟩ := trodVars_none hV
  have k0 := h0
  have lt0 : ∀ x ∈ p, x.block < W.heap.size := by obtain ⟨m, hm⟩ := k0; exact DataW.trod_lt m _ _ _ hm
  obtain ⟨raw, hs, hr, hlen⟩ := raw_of (hval 0 22 v0 rfl rfl) h0
  obtain ⟨T, m, hw⟩ := wok_of hL hsh
  clear hA0 hval0
  refine (kept_law raw v0 T m W hw hs hr hlen).mono fun e W' ⟨he, hb⟩ => ?_
  subst he
  exact ⟨_, rfl, _, _, _, [], _, [], hW', trodAll_mk1 (shut_bool Tryz.underlying4 _), trodAll_mk1 (Below.trod Tryz.laidOut (by kernel_rfl) (of_decide_eq_true (by kernel_rfl)) k0 hb lt0), rfl, hb.frame _, fun h => by cases h⟩
theorem kept_row : Rows.KeptSaid :=
  OpenClaim.holds_of_wide 4 Tryz.f4 rfl rfl rfl rfl rfl rfl rfl ⟨rfl, rfl, rfl, rfl, rfl⟩ rfl rfl rfl rfl rfl (by kernel_rfl) Tryz.func4 (by kernel_rfl)
    (of_decide_eq_true (by kernel_rfl)) (by unfold Func.isWrapper; rw [if_neg (of_decide_eq_false (by kernel_rfl))]; exact ⟨rfl, rfl⟩)
    (fun os started H enc _ => kept_lifted os started H enc)
theorem kept_holds : Rows.KeptCardSaid :=
  Claim7.holds_tied_plain_at .later [] [.data, .handle, .pinned] true (true, "dccb65324b57edde5bc964cf3dfee63425b8a1ca3b28af08cfd1abe230a325b4") true kept_row (fun _ h => by cases h) (by kernel_rfl) (fun _ h => by cases h) kept_row_tie rfl ⟨rfl, rfl⟩ (by kernel_rfl) rfl
    (fun f fn hf hfn => by
      obtain rfl : f = 4 := Option.some.inj ((show Tryz.prog.funcNamed "hem/hemkeep.Kept" = some 4 by kernel_rfl).symm.trans hf) |>.symm
      obtain rfl : fn = Tryz.f4 := (Option.some.inj (Tryz.func4.symm.trans hfn)).symm
      exact ⟨by kernel_rfl, fun j t ht => by
        rw [Tryz.params4] at ht
        have hm : t ∈ [22] := by simpa using Array.mem_of_getElem? ht
        have hall : ([22].all fun u => !Tryz.prog.wantsStandIn u) = true := by kernel_rfl
        exact (show Tryz.prog.wantsStandIn t = false by simpa using List.all_eq_true.1 hall t hm)⟩)
    (by kernel_rfl)
end Go.Proofs.YtdebjhdafnpfkabGreatDoor
