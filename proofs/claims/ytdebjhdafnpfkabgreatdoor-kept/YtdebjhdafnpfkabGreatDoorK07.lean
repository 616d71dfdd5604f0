import Derived.Test.YtdebjhdafnpfkabGreatDoorK06
import Derived.Test.YtdebjhdafnpfkabGreatDoorK03
import Derived.Lib.Strings
import Derived.Lib.SplitLaws
import Derived.Lib.ConvBytes
import Derived.Test.YtdebjhdafnpfkabGreatDoorK01
namespace Go.Proofs.YtdebjhdafnpfkabGreatDoor
open Go.ChangeShapes Go.WideShapes Go.ChangeAt Go.RowKit
set_option linter.unusedVariables false
set_option linter.unusedSimpArgs false
theorem hasP_one (t : ByteArray) (c : UInt8) : Lib.hasPrefix t.data.toList [c] = decide (t.size ≠ 0 ∧ bt t 0 = c.toNat) := by
  unfold Lib.hasPrefix
  have hl : t.data.toList.length = t.size := Array.length_toList
  cases hd : t.data.toList with
  | nil =>
    rw [hd] at hl
    simp at hl
    simp [List.isPrefixOf, hl.symm]
  | cons b r =>
    rw [hd] at hl
    simp only [List.length_cons] at hl
    obtain ⟨b', hb1, hb2⟩ := bt_list t 0 (by omega)
    rw [hd] at hb1
    simp only [List.getElem?_cons_zero, Option.some.injEq] at hb1
    subst hb1
    rw [Bool.eq_iff_iff]
    simp only [List.isPrefixOf, Bool.and_true, beq_iff_eq, decide_eq_true_eq, ← hb2, UInt8.toNat_inj]
    constructor
    · rintro rfl; exact ⟨by omega, rfl⟩
    · rintro ⟨_, rfl⟩; rfl
def zeroS : ByteArray := ⟨#[48]⟩
theorem zero_beq (t : ByteArray) : (t.toList == [48]) = decide (t = zeroS) := by
  have h : zeroS.toList = [48] := ByteArray.toList_mk [48]
  rw [← h, toList_beq]
theorem zero_only (t : ByteArray) (h0 : bt t 0 = 48) (hs : t.size ≠ 0) : (t.toList == [48]) = rnumber t := by
  rw [zero_beq, rnumber_zero t h0 hs, Bool.eq_iff_iff, decide_eq_true_eq, decide_eq_true_eq]
  constructor
  · rintro rfl; rfl
  · intro h1
    apply ByteArray.ext_getElem
    · exact h1
    · intro i hi hi'
      have e : i = 0 := by omega
      subst e
      have := bt_in t 0 hi
      rw [h0] at this
      exact UInt8.toNat_inj.1 this
/-- A number's pieces. -/
def pieces (t : ByteArray) : List ByteArray := Lib.splitB ⟨#[95]⟩ 0 (Lib.countB t ⟨#[95]⟩) t
theorem pieces_len (t : ByteArray) : (pieces t).length = Lib.countB t ⟨#[95]⟩ + 1 := Lib.splitB_all ⟨#[95]⟩ (by decide) 0 _ t rfl
theorem pieces_ok (t : ByteArray) (h0 : bt t 0 ≠ 48) : (pieces t).all (fun p => okP p.data.toList) = rnumber t := by
  rw [rnumber_numB t h0, ← splitK_one _ _ (Nat.le_refl _), ← Lib.count_one]
  have := Lib.splitB_data ⟨#[95]⟩ 0 (Lib.countB t ⟨#[95]⟩) t
  unfold pieces
  have e : Lib.splitK [95] 0 (Lib.count t.data.toList [95]) t.data.toList = (Lib.splitB ⟨#[95]⟩ 0 (Lib.countB t ⟨#[95]⟩) t).map (·.data.toList) := this.symm
  rw [e, List.all_map]
  rfl
theorem splitB_size (sep : ByteArray) : ∀ (k : Nat) (s : ByteArray), ∀ p ∈ Lib.splitB sep 0 k s, p.size ≤ s.size
  | 0, s, p, h => by
    rw [Lib.splitB_zero] at h
    simp only [List.mem_singleton] at h
    subst h
    exact Nat.le_refl _
  | k + 1, s, p, h => by
    unfold Lib.splitB at h
    split at h
    · simp only [List.mem_singleton] at h
      subst h
      exact Nat.le_refl _
    · rcases List.mem_cons.1 h with rfl | h
      · rw [ByteArray.size_extract]; omega
      · have := splitB_size sep k _ p h
        rw [ByteArray.size_extract] at this
        omega
theorem count_le_size (t : ByteArray) : Lib.countB t ⟨#[95]⟩ ≤ t.size := Lib.countB_le ⟨#[95]⟩ (by decide) t.size t (Nat.le_refl _)
theorem okP_empty (p : ByteArray) (h : p.size = 0) : okP p.data.toList = false := by
  have hl : p.data.toList.length = p.size := Array.length_toList
  have : p.data.toList = [] := List.length_eq_zero_iff.1 (by omega)
  rw [this]
  rfl
theorem okP_some (p : ByteArray) (h : p.size ≠ 0) : okP p.data.toList = decide (Lib.trimS p.data.toList [48, 49, 50, 51, 52, 53, 54, 55, 56, 57] = []) := by
  have hl : p.data.toList.length = p.size := Array.length_toList
  have : p.data.toList ≠ [] := fun e => by rw [e] at hl; simp at hl; omega
  unfold okP
  rw [decide_eq_true (show p.data.toList ≠ [] from this), Bool.true_and, Bool.eq_iff_iff, decide_eq_true_eq, trim_digits]
theorem mk_empty (l : List UInt8) : (⟨l.toArray⟩ : ByteArray).toList.isEmpty = decide (l = []) := by
  rw [toList_empty, Bool.eq_iff_iff, decide_eq_true_eq, decide_eq_true_eq]
  show l.toArray.size = 0 ↔ _
  simp
end Go.Proofs.YtdebjhdafnpfkabGreatDoor

namespace Go.Proofs.YtdebjhdafnpfkabGreatDoor
open Go.ChangeShapes Go.WideShapes Go.ChangeAt Go.RowKit
set_option linter.unusedVariables false
set_option linter.unusedSimpArgs false
theorem digits_ascii : ∀ (j : Nat) (b : UInt8), (⟨#[48, 49, 50, 51, 52, 53, 54, 55, 56, 57]⟩ : ByteArray).data.toList[j]? = some b → b.toNat < 128 := by
  intro j b h
  have hm := List.mem_of_getElem? h
  simp only [List.mem_cons, List.not_mem_nil, or_false] at hm
  rcases hm with rfl | rfl | rfl | rfl | rfl | rfl | rfl | rfl | rfl | rfl <;> decide
set_option maxHeartbeats 2000000 in
theorem areDigits_any (t : ByteArray) (w : World) (m : Int) (hs : t.size ≤ 4000) (hm : w.cell? ⟨1, 0, none⟩ = some (.int .i64 m)) :
    Calls Tryz.prog 110 #[.string t] w fun e w' => e = .returned (.bool (rnumber t)) ∧ Below w.heap.size w w' := by
  have hP := hasP_one t 48
  by_cases h0 : t.size ≠ 0 ∧ bt t 0 = 48
  · rw [decide_eq_true (by exact h0)] at hP
    have HP : Hid _ := hP
    have Z : Hid ((t.toList == [48]) = rnumber t) := zero_only t h0.2 h0.1
    clear hP h0
    go_enter Tryz.func110, Tryz.ntmps110
    go_wp2_with fail
    refine (Tryz.strings_HasPrefix t ⟨#[48]⟩ _).mono ?_
    rintro e w0 ⟨rfl, hw0⟩
    rw [hw0, show (⟨#[48]⟩ : ByteArray).data.toList = [48] from rfl, HP.out]
    clear hw0
    go_wp2_with fail
    go_ret
    exact ⟨ret_bool' Z.out, Below.refl _ _⟩
  · rw [decide_eq_false (by exact h0)] at hP
    have HP : Hid _ := hP
    have h48 : bt t 0 ≠ 48 := by
      intro e
      by_cases h1 : t.size = 0
      · rw [bt_end t 0 (by omega)] at e; omega
      · exact h0 ⟨h1, e⟩
    have Z : Hid ((pieces t).all (fun p => okP p.data.toList) = rnumber t) := pieces_ok t h48
    have Hm : Hid _ := hm
    have hcl := count_le_size t
    have HL : Hid _ := pieces_len t
    clear hP h0 h48
    go_enter Tryz.func110, Tryz.ntmps110
    go_wp2_with fail
    refine (Tryz.strings_HasPrefix t ⟨#[48]⟩ _).mono ?_
    rintro e w0 ⟨rfl, hw0⟩
    rw [hw0, show (⟨#[48]⟩ : ByteArray).data.toList = [48] from rfl, HP.out]
    clear hw0
    go_wp2_with fail
    refine (Tryz.strings_Split t ⟨#[95]⟩ m _ (by omega) Hm.out (by decide)).mono ?_
    rintro e w1 ⟨rfl, hw1⟩
    have hz1 : w1.heap.size = w.heap.size + 1 := by rw [hw1]; simp
    have hB1 : Hid (Below w.heap.size w w1) := by unfold Hid; rw [hw1]; exact (Below.refl _ _).alloc (Nat.le_refl _) _
    have hc1 : Hid (∀ (k : Nat) (p : ByteArray), (pieces t)[k]? = some p → w1.cell? ⟨w.heap.size, k, none⟩ = some (.string p)) := by
      intro k p hp
      rw [hw1, World.cell?_alloc_at _ _ _ _ rfl]
      show (((pieces t).map Value.string).toArray)[k]? = _
      rw [List.getElem?_toArray, List.getElem?_map, hp]
      rfl
    clear hw1
    generalize hN : Lib.countB t ⟨#[95]⟩ = N at *
    clear hN
    go_wp2_with fail
    go_loopw [12] (fun u12 wr => ∃ k : Nat, k ≤ N + 1 ∧ u12 = .int .i64 k ∧ Hid (((pieces t).take k).all (fun p => okP p.data.toList) = true) ∧ Hid (Below (w.heap.size + 1) w1 wr)) (fun u12 _ => N + 1 - (intOf u12).toNat)
    case atStart => exact ⟨0, by omega, rfl, rfl, Below.refl _ _⟩
    case round =>
      obtain ⟨k, hk, rfl, ht, hB⟩ := hrel
      by_cases hlt : k < N + 1
      · obtain ⟨p, hp⟩ : ∃ p, (pieces t)[k]? = some p := ⟨_, List.getElem?_eq_getElem (by rw [HL.out]; exact hlt)⟩
        have hc : wr.cell? ⟨w.heap.size, k, none⟩ = some (.string p) := by
          rw [hB.out.cell (p := ⟨w.heap.size, k, none⟩) (by simp only; omega)]
          exact hc1.out k p hp
        have hps : p.size ≤ 4000 := Nat.le_trans (splitB_size _ _ _ p (List.mem_of_getElem? hp)) hs
        have hsn : Hid (((pieces t).take (k + 1)).all (fun p => okP p.data.toList) = okP p.data.toList) := by
          unfold Hid
          rw [List.take_add_one, hp, List.all_append, ht.out]
          simp
        have HPk : Hid ((pieces t)[k]? = some p) := hp
        clear hp
        by_cases hp0 : p.size = 0
        · have te : p.toList.isEmpty = true := by rw [toList_empty]; exact decide_eq_true hp0
          have Fin : Hid (rnumber t = false) := by
            unfold Hid
            rw [← Z.out, List.all_eq_false]
            exact ⟨p, List.mem_of_getElem? HPk.out, by rw [okP_empty p hp0]; simp⟩
          clear hp0
          go_wp2_with fail
          go_ret
          exact ⟨ret_bool' Fin.out.symm, hB1.out.trans (hB.out.mono (by omega))⟩
        · have te : p.toList.isEmpty = false := by rw [toList_empty]; exact decide_eq_false hp0
          have hO : Hid _ := okP_some p hp0
          clear hp0
          go_wp2_with fail
          refine (Tryz.strings_Trim_laid p ⟨#[48, 49, 50, 51, 52, 53, 54, 55, 56, 57]⟩ _ (by omega) (by decide) digits_ascii).mono ?_
          rintro e w2 ⟨rfl, hB2⟩
          have hE := mk_empty (Lib.trimS p.data.toList (⟨#[48, 49, 50, 51, 52, 53, 54, 55, 56, 57]⟩ : ByteArray).data.toList)
          have hzr := hB.out.size
          have HB2 : Hid (Below (w.heap.size + 1) w1 w2) := hB.out.trans (hB2.mono (by omega))
          clear hB2
          generalize (⟨(Lib.trimS p.data.toList (⟨#[48, 49, 50, 51, 52, 53, 54, 55, 56, 57]⟩ : ByteArray).data.toList).toArray⟩ : ByteArray) = r at *
          cases hOk : okP p.data.toList
          · have te2 : r.toList.isEmpty = false := by rw [hE]; rw [hO.out] at hOk; exact hOk
            have Fin : Hid (rnumber t = false) := by
              unfold Hid
              rw [← Z.out, List.all_eq_false]
              exact ⟨p, List.mem_of_getElem? HPk.out, by rw [hOk]; simp⟩
            clear hE hOk hO
            go_wp2_with fail
            go_ret
            exact ⟨ret_bool' Fin.out.symm, hB1.out.trans (HB2.out.mono (by omega))⟩
          · have te2 : r.toList.isEmpty = true := by rw [hE]; rw [hO.out] at hOk; exact hOk
            have hsn2 : Hid (((pieces t).take (k + 1)).all (fun p => okP p.data.toList) = true) := by unfold Hid; rw [hsn.out, hOk]
            clear hE hOk hO hsn
            go_wp2_with fail
            go_roundw
            case rel => exact ⟨k + 1, by omega, by go_num, hsn2, HB2⟩
            case measure => simp [intOf]; omega
      · have e1 : k = N + 1 := by omega
        have Fin : Hid (rnumber t = true) := by
          unfold Hid
          have := ht.out
          rw [List.take_of_length_le (by rw [HL.out]; omega)] at this
          rw [← Z.out]
          exact this
        clear e1
        go_wp2_with fail
        go_ret
        exact ⟨ret_bool' Fin.out.symm, hB1.out.trans (hB.out.mono (by omega))⟩
end Go.Proofs.YtdebjhdafnpfkabGreatDoor

namespace Go.Proofs.YtdebjhdafnpfkabGreatDoor
open Go.ChangeShapes Go.WideShapes Go.ChangeAt Go.RowKit
set_option linter.unusedVariables false
set_option linter.unusedSimpArgs false
theorem lt_of_cell {w : World} {k o : Nat} {v : Value} (h : w.cell? ⟨k, o, none⟩ = some v) : k < w.heap.size := by
  rcases Nat.lt_or_ge k w.heap.size with h1 | h1
  · exact h1
  · simp [World.cell?, Array.getElem?_eq_none h1] at h
theorem fold_nonneg : ∀ (l : List UInt8) (n : Int), 0 ≤ n → l.all digB = true → 0 ≤ l.foldl stepd n
  | [], n, h, _ => h
  | b :: l, n, h, hd => by
    rw [List.all_cons, Bool.and_eq_true] at hd
    have h2 := hd.1
    simp only [digB, decide_eq_true_eq] at h2
    rw [List.foldl_cons]
    refine fold_nonneg l _ ?_ hd.2
    unfold stepd
    split
    · omega
    · exact h
theorem rdigL_nonneg (l : List UInt8) (h : l.all digB = true) : 0 ≤ rdigL l := fold_nonneg l 0 (Int.le_refl _) h
theorem below_kc {b B : Nat} {w w' : World} (h : Below B w w') (hb : b < w.heap.size) (hB : w.heap.size ≤ B) : Kc b w w' := (Kc.refl b w).below hb hB h
theorem bytes_below (w : World) (e : TypeId) (f : ByteArray) : Below w.heap.size w (Lib.bytesWorld w e f) :=
  ⟨rfl, rfl, rfl, by rw [Lib.bytesWorld_size]; omega, fun k hk => Lib.bytesWorld_at_old w e f k hk⟩
/-- What became of the word, without its sign. -/
structure NumP (b : Nat) (s : ByteArray) (a : Nat) (t : ByteArray) (minus : Bool) (w : World) (e : Ending) (w' : World) : Prop where
  out : (rnumber t = true ∧ rdig t t.size ≤ 999999999999999 ∧ e = .returned (.int .i64 (if minus = true then - rdig t t.size else rdig t t.size)) ∧ PC w' b s a ∧ Kc b w w') ∨
    (rnumber t = false ∧ ∃ q, Pan b w e w' 3 (lineAt s a) q) ∨ (rnumber t = true ∧ 999999999999999 < rdig t t.size ∧ ∃ q, Pan b w e w' 4 (lineAt s a) q)
/-- The digits are gone through. -/
def dg (f : ByteArray) (j : Nat) : Nat := (f.data.toList.getD j 0).toNat
theorem dg_bd (f : ByteArray) (hd : f.data.toList.all digB = true) (j : Nat) (hj : j < f.size) : 48 ≤ dg f j ∧ dg f j ≤ 57 := by
  have hl : f.data.toList.length = f.size := Array.length_toList
  have hm : f.data.toList.getD j 0 ∈ f.data.toList := by
    rw [List.getD_eq_getElem?_getD, List.getElem?_eq_getElem (by omega)]
    exact List.getElem_mem _
  have := List.all_eq_true.1 hd _ hm
  simp only [digB, decide_eq_true_eq] at this
  exact this
theorem rdigL_take (f : ByteArray) (j : Nat) (hj : j < f.size) : rdigL (f.data.toList.take (j + 1)) = if rdigL (f.data.toList.take j) ≤ 999999999999999 then 10 * rdigL (f.data.toList.take j) + dg f j - 48 else rdigL (f.data.toList.take j) := by
  have hl : f.data.toList.length = f.size := Array.length_toList
  have e : f.data.toList.take (j + 1) = f.data.toList.take j ++ [f.data.toList.getD j 0] := by
    rw [List.take_add_one, List.getD_eq_getElem?_getD, List.getElem?_eq_getElem (by omega)]
    rfl
  rw [e, rdigL_snoc]
  rfl
theorem all_take (l : List UInt8) (n : Nat) (h : l.all digB = true) : (l.take n).all digB = true := by
  rw [List.all_eq_true] at *
  intro b hb
  exact h b (List.mem_of_mem_take hb)
theorem rdigL_over (l : List UInt8) (n : Nat) (h : 999999999999999 < rdigL (l.take n)) : 999999999999999 < rdigL l := by
  have := rdigL_stick (l.take n) (l.drop n) h
  rw [List.take_append_drop] at this
  omega
set_option maxHeartbeats 4000000 in
theorem toNumber_any (b : Nat) (s : ByteArray) (a : Nat) (word t : ByteArray) (minus : Bool) (w : World) (m : Int) (hs : s.size ≤ 4000) (ht : t.size ≤ 4000) (hG : 1 < b)
    (hc : Lib.hasPrefix word.data.toList [45] = minus)
    (hdg : (⟨(Lib.trimPrefix word.data.toList (if minus = true then [45] else [43])).toArray⟩ : ByteArray) = t)
    (hm : w.cell? ⟨1, 0, none⟩ = some (.int .i64 m)) (h : PC w b s a) :
    Calls Tryz.prog 102 #[.pointer (some ⟨b, 0, none⟩), .string word] w fun e w' => NumP b s a t minus w e w' := by
  have hlt := h.lt
  have h' : Hid (PC w b s a) := h
  have Hm : Hid _ := hm
  clear h hm
  have hconv := fun (w : World) (f : ByteArray) => Lib.run_convert_string_bytes (P := Tryz.prog) w 9 43 5 f Tryz.underlying9 Tryz.underlying43 Tryz.underlying5
  have Rest : Hid (∀ (w1 : World), Below w.heap.size w w1 → w1.cell? ⟨1, 0, none⟩ = some (.int .i64 m)) := by
    intro w1 hb
    rw [hb.cell (p := ⟨1, 0, none⟩) (by simp only; omega)]
    exact Hm.out
  cases minus with
  | false =>
    simp only [Bool.false_eq_true, if_false] at hdg
    have C1 : Hid (Lib.hasPrefix word.data.toList [45] = false ∧ (⟨(Lib.trimPrefix word.data.toList [43]).toArray⟩ : ByteArray) = t) := ⟨hc, hdg⟩
    clear hc hdg
    go_enter Tryz.func102, Tryz.ntmps102
    go_wp2_with fail
    refine (Tryz.strings_CutPrefix word ⟨#[45]⟩ _).mono ?_
    rintro e w0 ⟨rfl, hw0⟩
    rw [hw0, show (⟨#[45]⟩ : ByteArray).data.toList = [45] from rfl, C1.out.1]
    clear hw0
    go_wp2_with fail
    refine (Tryz.strings_TrimPrefix word ⟨#[43]⟩ _).mono ?_
    rintro e w0 ⟨rfl, hw0⟩
    rw [hw0, show (⟨#[43]⟩ : ByteArray).data.toList = [43] from rfl, C1.out.2]
    clear hw0 C1
    go_wp2_with fail
    refine (areDigits_any t _ m ht Hm.out).mono ?_
    rintro e w1 ⟨rfl, hB1⟩
    have HB1 : Hid (Below w.heap.size w w1) := hB1
    have hz1 := hB1.size
    clear hB1
    cases hnum : rnumber t
    · go_wp2_with fail
      refine (fail_any b s a 3 _ (h'.out.below hlt HB1.out)).mono ?_
      rintro e w2 ⟨q, hq⟩
      have he' := hq.e
      subst he'
      exact ⟨rfl, ⟨.inr (.inl ⟨hnum, q, hq.trans (below_kc HB1.out hlt (Nat.le_refl _)).kb⟩)⟩⟩
    · have hnum' : Hid (rnumber t = true) := hnum
      clear hnum
      have hD0 : Hid ((t.data.toList.filter (fun b => decide (b ≠ 95))).all digB = true) := by
        unfold Hid
        by_cases h48 : bt t 0 = 48
        · have hn := hnum'.out
          have hz : t.size ≠ 0 := by
            intro e
            rw [bt_end t 0 (by omega)] at h48
            omega
          rw [rnumber_zero t h48 hz, decide_eq_true_eq] at hn
          have hl : t.data.toList.length = t.size := Array.length_toList
          rw [List.all_eq_true]
          intro c hcm
          have hcm := (List.mem_filter.1 hcm).1
          obtain ⟨i, hi⟩ := List.getElem?_of_mem hcm
          have hi0 : i = 0 := by
            have := (List.getElem?_eq_some_iff.1 hi).1
            omega
          subst hi0
          obtain ⟨c', hc1, hc2⟩ := bt_list t 0 (by omega)
          rw [hi] at hc1
          cases hc1
          simp only [digB, decide_eq_true_eq]
          omega
        · exact numB_digits _ true (by rw [← rnumber_numB t h48]; exact hnum'.out)
      go_wp2_with fail
      refine (Tryz.strings_ReplaceAll t ⟨#[95]⟩ ⟨#[]⟩ m _ (by omega) (Rest.out w1 HB1.out) (by decide) (by rw [show (⟨#[]⟩ : ByteArray).size = 0 from rfl]; omega)).mono ?_
      rintro e w2 ⟨rfl, hB2⟩
      have HB2 : Hid (Below w.heap.size w w2) := HB1.out.trans (hB2.mono hz1)
      have hz2 := HB2.out.size
      clear hB2
      have hF : Hid ((⟨(Lib.replaceAll t.data.toList (⟨#[95]⟩ : ByteArray).data.toList (⟨#[]⟩ : ByteArray).data.toList).toArray⟩ : ByteArray).data.toList = t.data.toList.filter (fun b => decide (b ≠ 95))) := by
        unfold Hid
        rw [← replaceAll_one]
      generalize (⟨(Lib.replaceAll t.data.toList (⟨#[95]⟩ : ByteArray).data.toList (⟨#[]⟩ : ByteArray).data.toList).toArray⟩ : ByteArray) = f at *
      have hD : Hid (f.data.toList.all digB = true) := by unfold Hid; rw [hF.out]; exact hD0.out
      have hR : Hid (rdig t t.size = rdigL f.data.toList) := by unfold Hid; rw [rdig_all, hF.out]
      have hfs : f.size ≤ 4000 := by
        have hl : f.data.toList.length = f.size := Array.length_toList
        have hl2 : t.data.toList.length = t.size := Array.length_toList
        have := List.length_filter_le (fun b : UInt8 => decide (b ≠ 95)) t.data.toList
        rw [← hF.out] at this
        omega
      clear hF hD0
      have hcell : Hid (∀ j, j < f.size → (Lib.bytesWorld w2 5 f).cell? ⟨w2.heap.size, j, none⟩ = some (.int .u8 (dg f j))) := fun j hj => Lib.bytesWorld_cell w2 5 f j hj
      have HB3 : Hid (Below w.heap.size w (Lib.bytesWorld w2 5 f)) := HB2.out.trans ((bytes_below w2 _ f).mono hz2)
      go_wp2_with fail
      generalize Lib.bytesWorld w2 5 f = w3 at *
      clear hconv
      have h3 : Hid (PC w3 b s a) := h'.out.below hlt HB3.out
      go_loop [7, 30] (fun u7 u30 => ∃ k : Nat, k ≤ f.size ∧ u30 = .int .i64 k ∧ u7 = .int .i64 (rdigL (f.data.toList.take k)) ∧ rdigL (f.data.toList.take k) ≤ 999999999999999) (fun _ u30 => f.size - (intOf u30).toNat)
      case atStart => exact ⟨0, Nat.zero_le _, rfl, rfl, by rw [List.take_zero]; decide⟩
      case round =>
        obtain ⟨k, hk, rfl, rfl, hle⟩ := hrel
        have hnn := rdigL_nonneg _ (all_take _ k hD.out)
        by_cases hlk : k < f.size
        · have hc := hcell.out k hlk
          have hbd := dg_bd f hD.out k hlk
          have hnx : Hid _ := rdigL_take f k hlk
          have hnx2 : Hid (rdigL (f.data.toList.take (k + 1)) = 10 * rdigL (f.data.toList.take k) + dg f k - 48) := by
            unfold Hid; rw [hnx.out, if_pos hle]
          clear hnx
          generalize rdigL (f.data.toList.take k) = n at *
          generalize hdk : dg f k = d at *
          clear hdk
          by_cases hov : 999999999999999 < 10 * n + d - 48
          · go_wp2_with fail
            refine (fail_any b s a 4 _ h3.out).mono ?_
            rintro e w4 ⟨q, hq⟩
            have he' := hq.e
            subst he'
            refine ⟨rfl, ⟨.inr (.inr ⟨hnum'.out, ?_, q, hq.trans (below_kc HB3.out hlt (Nat.le_refl _)).kb⟩)⟩⟩
            rw [hR.out]
            exact rdigL_over _ (k + 1) (by rw [hnx2.out]; exact hov)
          · go_wp2_with fail
            go_round
            case rel => exact ⟨k + 1, by omega, by go_num, by rw [hnx2.out]; congr 1; omega, by rw [hnx2.out]; omega⟩
            case measure => simp [intOf]; omega
        · have e1 : f.data.toList.take k = f.data.toList := List.take_of_length_le (by rw [show f.data.toList.length = f.size from Array.length_toList]; omega)
          rw [e1] at hle hnn ⊢
          rw [← hR.out] at hle hnn ⊢
          go_wp2_with fail
          go_ret
          exact ⟨.inl ⟨hnum'.out, hle, rfl, h3.out, below_kc HB3.out hlt (Nat.le_refl _)⟩⟩
  | true =>
    simp only [if_true] at hdg
    have C1 : Hid (Lib.hasPrefix word.data.toList [45] = true ∧ (⟨(Lib.trimPrefix word.data.toList [45]).toArray⟩ : ByteArray) = t) := ⟨hc, hdg⟩
    clear hc hdg
    go_enter Tryz.func102, Tryz.ntmps102
    go_wp2_with fail
    refine (Tryz.strings_CutPrefix word ⟨#[45]⟩ _).mono ?_
    rintro e w0 ⟨rfl, hw0⟩
    rw [hw0, show (⟨#[45]⟩ : ByteArray).data.toList = [45] from rfl, C1.out.1, C1.out.2]
    clear hw0 C1
    go_wp2_with fail
    refine (areDigits_any t _ m ht Hm.out).mono ?_
    rintro e w1 ⟨rfl, hB1⟩
    have HB1 : Hid (Below w.heap.size w w1) := hB1
    have hz1 := hB1.size
    clear hB1
    cases hnum : rnumber t
    · go_wp2_with fail
      refine (fail_any b s a 3 _ (h'.out.below hlt HB1.out)).mono ?_
      rintro e w2 ⟨q, hq⟩
      have he' := hq.e
      subst he'
      exact ⟨rfl, ⟨.inr (.inl ⟨hnum, q, hq.trans (below_kc HB1.out hlt (Nat.le_refl _)).kb⟩)⟩⟩
    · have hnum' : Hid (rnumber t = true) := hnum
      clear hnum
      have hD0 : Hid ((t.data.toList.filter (fun b => decide (b ≠ 95))).all digB = true) := by
        unfold Hid
        by_cases h48 : bt t 0 = 48
        · have hn := hnum'.out
          have hz : t.size ≠ 0 := by
            intro e
            rw [bt_end t 0 (by omega)] at h48
            omega
          rw [rnumber_zero t h48 hz, decide_eq_true_eq] at hn
          have hl : t.data.toList.length = t.size := Array.length_toList
          rw [List.all_eq_true]
          intro c hcm
          have hcm := (List.mem_filter.1 hcm).1
          obtain ⟨i, hi⟩ := List.getElem?_of_mem hcm
          have hi0 : i = 0 := by
            have := (List.getElem?_eq_some_iff.1 hi).1
            omega
          subst hi0
          obtain ⟨c', hc1, hc2⟩ := bt_list t 0 (by omega)
          rw [hi] at hc1
          cases hc1
          simp only [digB, decide_eq_true_eq]
          omega
        · exact numB_digits _ true (by rw [← rnumber_numB t h48]; exact hnum'.out)
      go_wp2_with fail
      refine (Tryz.strings_ReplaceAll t ⟨#[95]⟩ ⟨#[]⟩ m _ (by omega) (Rest.out w1 HB1.out) (by decide) (by rw [show (⟨#[]⟩ : ByteArray).size = 0 from rfl]; omega)).mono ?_
      rintro e w2 ⟨rfl, hB2⟩
      have HB2 : Hid (Below w.heap.size w w2) := HB1.out.trans (hB2.mono hz1)
      have hz2 := HB2.out.size
      clear hB2
      have hF : Hid ((⟨(Lib.replaceAll t.data.toList (⟨#[95]⟩ : ByteArray).data.toList (⟨#[]⟩ : ByteArray).data.toList).toArray⟩ : ByteArray).data.toList = t.data.toList.filter (fun b => decide (b ≠ 95))) := by
        unfold Hid
        rw [← replaceAll_one]
      generalize (⟨(Lib.replaceAll t.data.toList (⟨#[95]⟩ : ByteArray).data.toList (⟨#[]⟩ : ByteArray).data.toList).toArray⟩ : ByteArray) = f at *
      have hD : Hid (f.data.toList.all digB = true) := by unfold Hid; rw [hF.out]; exact hD0.out
      have hR : Hid (rdig t t.size = rdigL f.data.toList) := by unfold Hid; rw [rdig_all, hF.out]
      have hfs : f.size ≤ 4000 := by
        have hl : f.data.toList.length = f.size := Array.length_toList
        have hl2 : t.data.toList.length = t.size := Array.length_toList
        have := List.length_filter_le (fun b : UInt8 => decide (b ≠ 95)) t.data.toList
        rw [← hF.out] at this
        omega
      clear hF hD0
      have hcell : Hid (∀ j, j < f.size → (Lib.bytesWorld w2 5 f).cell? ⟨w2.heap.size, j, none⟩ = some (.int .u8 (dg f j))) := fun j hj => Lib.bytesWorld_cell w2 5 f j hj
      have HB3 : Hid (Below w.heap.size w (Lib.bytesWorld w2 5 f)) := HB2.out.trans ((bytes_below w2 _ f).mono hz2)
      go_wp2_with fail
      generalize Lib.bytesWorld w2 5 f = w3 at *
      clear hconv
      have h3 : Hid (PC w3 b s a) := h'.out.below hlt HB3.out
      go_loop [7, 30] (fun u7 u30 => ∃ k : Nat, k ≤ f.size ∧ u30 = .int .i64 k ∧ u7 = .int .i64 (rdigL (f.data.toList.take k)) ∧ rdigL (f.data.toList.take k) ≤ 999999999999999) (fun _ u30 => f.size - (intOf u30).toNat)
      case atStart => exact ⟨0, Nat.zero_le _, rfl, rfl, by rw [List.take_zero]; decide⟩
      case round =>
        obtain ⟨k, hk, rfl, rfl, hle⟩ := hrel
        have hnn := rdigL_nonneg _ (all_take _ k hD.out)
        by_cases hlk : k < f.size
        · have hc := hcell.out k hlk
          have hbd := dg_bd f hD.out k hlk
          have hnx : Hid _ := rdigL_take f k hlk
          have hnx2 : Hid (rdigL (f.data.toList.take (k + 1)) = 10 * rdigL (f.data.toList.take k) + dg f k - 48) := by
            unfold Hid; rw [hnx.out, if_pos hle]
          clear hnx
          generalize rdigL (f.data.toList.take k) = n at *
          generalize hdk : dg f k = d at *
          clear hdk
          by_cases hov : 999999999999999 < 10 * n + d - 48
          · go_wp2_with fail
            refine (fail_any b s a 4 _ h3.out).mono ?_
            rintro e w4 ⟨q, hq⟩
            have he' := hq.e
            subst he'
            refine ⟨rfl, ⟨.inr (.inr ⟨hnum'.out, ?_, q, hq.trans (below_kc HB3.out hlt (Nat.le_refl _)).kb⟩)⟩⟩
            rw [hR.out]
            exact rdigL_over _ (k + 1) (by rw [hnx2.out]; exact hov)
          · go_wp2_with fail
            go_round
            case rel => exact ⟨k + 1, by omega, by go_num, by rw [hnx2.out]; congr 1; omega, by rw [hnx2.out]; omega⟩
            case measure => simp [intOf]; omega
        · have e1 : f.data.toList.take k = f.data.toList := List.take_of_length_le (by rw [show f.data.toList.length = f.size from Array.length_toList]; omega)
          rw [e1] at hle hnn ⊢
          rw [← hR.out] at hle hnn ⊢
          go_wp2_with fail
          go_ret
          exact ⟨.inl ⟨hnum'.out, hle, rfl, h3.out, below_kc HB3.out hlt (Nat.le_refl _)⟩⟩
end Go.Proofs.YtdebjhdafnpfkabGreatDoor

namespace Go.Proofs.YtdebjhdafnpfkabGreatDoor
open Go.ChangeShapes Go.WideShapes Go.ChangeAt Go.RowKit
set_option linter.unusedVariables false
/-- The node of a list or a group that is being read. -/
structure LN (w : World) (q k : Nat) (lv nv : Value) : Prop where
  c0 : w.cell? ⟨q, 0, none⟩ = some (.int .u8 k)
  c1 : w.cell? ⟨q, 1, none⟩ = some (.int .i64 0)
  c2 : w.cell? ⟨q, 2, none⟩ = some (.string ⟨#[]⟩)
  c3 : w.cell? ⟨q, 3, none⟩ = some lv
  c4 : w.cell? ⟨q, 4, none⟩ = some nv
  F : ∀ o, w.frozen? ⟨q, o, none⟩ = false
theorem LN.of_block {w w' : World} {q k : Nat} {lv nv : Value} (h : LN w q k lv nv) (hb : w'.heap[q]? = w.heap[q]?) : LN w' q k lv nv :=
  ⟨(World.cell?_of_block (w := w) hb).trans h.c0, (World.cell?_of_block (w := w) hb).trans h.c1, (World.cell?_of_block (w := w) hb).trans h.c2, (World.cell?_of_block (w := w) hb).trans h.c3,
   (World.cell?_of_block (w := w) hb).trans h.c4, fun o => (World.frozen?_of_block (w := w) hb).trans (h.F o)⟩
theorem LN.kb {b : Nat} {w w' : World} {q k : Nat} {lv nv : Value} (h : LN w q k lv nv) (hk : Kb b w w') (hq : q < w.heap.size) (hb : q ≠ b) : LN w' q k lv nv := h.of_block (hk.block q hq hb)
end Go.Proofs.YtdebjhdafnpfkabGreatDoor
