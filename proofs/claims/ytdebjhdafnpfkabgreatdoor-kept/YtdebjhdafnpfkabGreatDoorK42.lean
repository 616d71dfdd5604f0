import Derived.Test.YtdebjhdafnpfkabGreatDoorK28
import Derived.Test.YtdebjhdafnpfkabGreatDoorK39
import Derived.Test.YtdebjhdafnpfkabGreatDoorK40
import Derived.Test.YtdebjhdafnpfkabGreatDoorK41
import Derived.Test.YtdebjhdafnpfkabGreatDoorK35
import Derived.Test.YtdebjhdafnpfkabGreatDoorK19
import Derived.Carry
import Derived.ChangeSlices
namespace Go.Proofs.YtdebjhdafnpfkabGreatDoor
open Go.ChangeShapes Go.WideShapes Go.ChangeAt Go.RowKit
set_option linter.unusedVariables false
set_option linter.unusedSimpArgs false
set_option maxRecDepth 100000 in
set_option maxHeartbeats 4000000 in
theorem one_n (c : Int) (w : World) (h1 : -9223372036854775808 ≤ c) (h2 : c ≤ 9223372036854775807) :
    Calls Tryz.prog 36 #[.int .u8 (kb 0), .int .i64 c] w fun e w' => ∃ nv sv, e = .returned (.agg #[.int .u8 (kb 0), nv, sv, .string (oneP 0 c), .string (oneO 0 c)]) ∧ ThgAt w' w.heap.size 0 nv sv ∧ Below w.heap.size w w' := by
  have hB0 : Below w.heap.size w (w.alloc (.cells #[.int .u8 0, .slice none 0 0, .slice none 0 0, .string ⟨#[]⟩, .string ⟨#[]⟩] 57)) := (Below.refl _ _).alloc (Nat.le_refl _) _
  have T0 := TB.new w (.int .u8 0) (.slice none 0 0) (.slice none 0 0) (.string ⟨#[]⟩) (.string ⟨#[]⟩)
  have HB0 : Hid _ := hB0
  have HT0 : Hid _ := T0
  clear hB0 T0
  have HN : Hid _ := fun w => knumber_any c w h1 h2
  have HF : Hid (oneP 0 c = numP c ∧ oneO 0 c = numO c) := ⟨rfl, rfl⟩
  show Calls Tryz.prog 36 #[.int .u8 110, .int .i64 c] w _
  go_enter Tryz.func36, Tryz.ntmps36
  go_wp2_with fail
  generalize (w.alloc (.cells #[.int .u8 0, .slice none 0 0, .slice none 0 0, .string ⟨#[]⟩, .string ⟨#[]⟩] 57)) = W0 at *
  refine (HN.out W0).mono ?_
  rintro e w1 ⟨rfl, hB1⟩
  have T1 := HT0.out.below hB1 HT0.out.lt
  have HB1 : Hid (Below w.heap.size w w1) := HB0.out.trans (hB1.mono HB0.out.size)
  have hz1 : w.heap.size ≤ w1.heap.size := HB1.out.size
  have HFin : Hid _ := one_fin HB1.out T1 (.int .u8 110) (.slice (some ⟨w1.heap.size, 0, none⟩) 1 1) (.slice none 0 0) (.string (numP c)) (.string (numO c)) (.int .i64 (numI c)) 3
  obtain ⟨c0, c1, c2, c3, c4, cF, cl⟩ := T1
  clear hB1 HT0 HB0
  go_wp2_with fail
  obtain ⟨⟨f0, f1, f2, f3, f4, fF, fl⟩, hBF, hx⟩ := HFin.out
  refine bodyPost_ret (v := .agg #[.int .u8 110, .slice (some ⟨w1.heap.size, 0, none⟩) 1 1, .slice none 0 0, .string (numP c), .string (numO c)]) (by unfold putT at f0 f1 f2 f3 f4; simp [results, Tryz.results36, go_sem, f0, f1, f2, f3, f4]) rfl ?_
  exact ⟨_, _, by rw [HF.out.1, HF.out.2]; rfl, .inl ⟨by decide, rfl, _, _, rfl, hz1, hx⟩, hBF⟩
end Go.Proofs.YtdebjhdafnpfkabGreatDoor

namespace Go.Proofs.YtdebjhdafnpfkabGreatDoor
open Go.ChangeShapes Go.WideShapes Go.ChangeAt Go.RowKit
set_option linter.unusedVariables false
set_option linter.unusedSimpArgs false
set_option maxRecDepth 100000 in
set_option maxHeartbeats 4000000 in
theorem one_b (c : Int) (w : World) (h1 : -9223372036854775808 ≤ c) (h2 : c ≤ 9223372036854775807) :
    Calls Tryz.prog 36 #[.int .u8 (kb 1), .int .i64 c] w fun e w' => ∃ nv sv, e = .returned (.agg #[.int .u8 (kb 1), nv, sv, .string (oneP 1 c), .string (oneO 1 c)]) ∧ ThgAt w' w.heap.size 1 nv sv ∧ Below w.heap.size w w' := by
  have hB0 : Below w.heap.size w (w.alloc (.cells #[.int .u8 0, .slice none 0 0, .slice none 0 0, .string ⟨#[]⟩, .string ⟨#[]⟩] 57)) := (Below.refl _ _).alloc (Nat.le_refl _) _
  have T0 := TB.new w (.int .u8 0) (.slice none 0 0) (.slice none 0 0) (.string ⟨#[]⟩) (.string ⟨#[]⟩)
  have HB0 : Hid _ := hB0
  have HT0 : Hid _ := T0
  clear hB0 T0
  have HP : Hid (∀ w, Calls Tryz.prog 6 #[.int .i64 c, .int .i64 2] w fun e w' => e = .returned (.int .i64 (pk c 2)) ∧ w' = w) := fun w => pick_any c 2 w h1 h2 (by decide) (by decide)
  have HF : Hid (oneP 1 c = (if pk c 2 = 0 then falseS else trueS) ∧ oneO 1 c = (if pk c 2 = 0 then falseS else trueS)) := ⟨rfl, rfl⟩
  have hp2 := pk_lt c 2 (by decide)
  generalize pk c 2 = p at *
  show Calls Tryz.prog 36 #[.int .u8 98, .int .i64 c] w _
  go_enter Tryz.func36, Tryz.ntmps36
  go_wp2_with fail
  generalize (w.alloc (.cells #[.int .u8 0, .slice none 0 0, .slice none 0 0, .string ⟨#[]⟩, .string ⟨#[]⟩] 57)) = w1 at *
  refine (HP.out w1).mono ?_
  rintro e w2 ⟨rfl, hw2⟩
  rw [hw2]
  clear hw2 w2
  have hz1 : w.heap.size ≤ w1.heap.size := HB0.out.size
  by_cases hp : p = 0
  · have t3 : ((p : Int) == 0) = true := by simp; omega
    have HG : Hid (oneP 1 c = falseS ∧ oneO 1 c = falseS) := by unfold Hid; rw [HF.out.1, HF.out.2, if_pos hp]; exact ⟨rfl, rfl⟩
    have HFin : Hid _ := one_fin HB0.out HT0.out (.int .u8 98) (.slice (some ⟨w1.heap.size, 0, none⟩) 1 1) (.slice none 0 0) (.string falseS) (.string falseS) (.int .i64 0) 3
    obtain ⟨c0, c1, c2, c3, c4, cF, cl⟩ := HT0.out
    clear hp HT0 HB0
    go_wp2_with fail
    obtain ⟨⟨f0, f1, f2, f3, f4, fF, fl⟩, hBF, hx⟩ := HFin.out
    refine bodyPost_ret (v := .agg #[.int .u8 98, .slice (some ⟨w1.heap.size, 0, none⟩) 1 1, .slice none 0 0, .string falseS, .string falseS]) (by unfold putT falseS at f0 f1 f2 f3 f4; simp [results, Tryz.results36, go_sem, f0, f1, f2, f3, f4, falseS]) rfl ?_
    exact ⟨_, _, by rw [HG.out.1, HG.out.2]; rfl, .inl ⟨by decide, rfl, _, _, rfl, hz1, hx⟩, hBF⟩
  · have t3 : ((p : Int) == 0) = false := by simp; omega
    have HG : Hid (oneP 1 c = trueS ∧ oneO 1 c = trueS) := by unfold Hid; rw [HF.out.1, HF.out.2, if_neg hp]; exact ⟨rfl, rfl⟩
    have HFin : Hid _ := one_fin HB0.out HT0.out (.int .u8 98) (.slice (some ⟨w1.heap.size, 0, none⟩) 1 1) (.slice none 0 0) (.string trueS) (.string trueS) (.int .i64 1) 3
    obtain ⟨c0, c1, c2, c3, c4, cF, cl⟩ := HT0.out
    clear hp HT0 HB0
    go_wp2_with fail
    obtain ⟨⟨f0, f1, f2, f3, f4, fF, fl⟩, hBF, hx⟩ := HFin.out
    refine bodyPost_ret (v := .agg #[.int .u8 98, .slice (some ⟨w1.heap.size, 0, none⟩) 1 1, .slice none 0 0, .string trueS, .string trueS]) (by unfold putT trueS at f0 f1 f2 f3 f4; simp [results, Tryz.results36, go_sem, f0, f1, f2, f3, f4, trueS]) rfl ?_
    exact ⟨_, _, by rw [HG.out.1, HG.out.2]; rfl, .inl ⟨by decide, rfl, _, _, rfl, hz1, hx⟩, hBF⟩
end Go.Proofs.YtdebjhdafnpfkabGreatDoor

namespace Go.Proofs.YtdebjhdafnpfkabGreatDoor
open Go.ChangeShapes Go.WideShapes Go.ChangeAt Go.RowKit
set_option linter.unusedVariables false
set_option linter.unusedSimpArgs false
set_option maxRecDepth 100000 in
set_option maxHeartbeats 4000000 in
theorem one_s (c : Int) (w : World) (h1 : -9223372036854775808 ≤ c) (h2 : c ≤ 9223372036854775807) :
    Calls Tryz.prog 36 #[.int .u8 (kb 2), .int .i64 c] w fun e w' => ∃ nv sv, e = .returned (.agg #[.int .u8 (kb 2), nv, sv, .string (oneP 2 c), .string (oneO 2 c)]) ∧ ThgAt w' w.heap.size 2 nv sv ∧ Below w.heap.size w w' := by
  have hB0 : Below w.heap.size w (w.alloc (.cells #[.int .u8 0, .slice none 0 0, .slice none 0 0, .string ⟨#[]⟩, .string ⟨#[]⟩] 57)) := (Below.refl _ _).alloc (Nat.le_refl _) _
  have T0 := TB.new w (.int .u8 0) (.slice none 0 0) (.slice none 0 0) (.string ⟨#[]⟩) (.string ⟨#[]⟩)
  have HB0 : Hid _ := hB0
  have HT0 : Hid _ := T0
  clear hB0 T0
  have HN : Hid _ := fun w => kword_any c w h1 h2
  have HF : Hid (oneP 2 c = wordW c ∧ oneO 2 c = wordW c) := ⟨rfl, rfl⟩
  show Calls Tryz.prog 36 #[.int .u8 115, .int .i64 c] w _
  go_enter Tryz.func36, Tryz.ntmps36
  go_wp2_with fail
  generalize (w.alloc (.cells #[.int .u8 0, .slice none 0 0, .slice none 0 0, .string ⟨#[]⟩, .string ⟨#[]⟩] 57)) = W0 at *
  refine (HN.out W0).mono ?_
  rintro e w1 ⟨rfl, n1, hw1⟩
  have hB1 : Below W0.heap.size W0 w1 := by rw [hw1]; exact kbelow_drewN (Below.refl _ _) n1
  have T1 := HT0.out.below hB1 HT0.out.lt
  have HB1 : Hid (Below w.heap.size w w1) := HB0.out.trans (hB1.mono HB0.out.size)
  have hz1 : w.heap.size ≤ w1.heap.size := HB1.out.size
  have HFin : Hid _ := one_fin HB1.out T1 (.int .u8 115) (.slice none 0 0) (.slice (some ⟨w1.heap.size, 0, none⟩) 1 1) (.string (wordW c)) (.string (wordW c)) (.string (wordS c)) 9
  obtain ⟨c0, c1, c2, c3, c4, cF, cl⟩ := T1
  clear hB1 HT0 HB0 hw1
  go_wp2_with fail
  obtain ⟨⟨f0, f1, f2, f3, f4, fF, fl⟩, hBF, hx⟩ := HFin.out
  refine bodyPost_ret (v := .agg #[.int .u8 115, .slice none 0 0, .slice (some ⟨w1.heap.size, 0, none⟩) 1 1, .string (wordW c), .string (wordW c)]) (by unfold putT at f0 f1 f2 f3 f4; simp [results, Tryz.results36, go_sem, f0, f1, f2, f3, f4]) rfl ?_
  exact ⟨_, _, by rw [HF.out.1, HF.out.2]; rfl, .inr ⟨rfl, rfl, _, _, rfl, hz1, hx⟩, hBF⟩
end Go.Proofs.YtdebjhdafnpfkabGreatDoor

namespace Go.Proofs.YtdebjhdafnpfkabGreatDoor
open Go.ChangeShapes Go.WideShapes Go.ChangeAt Go.RowKit
set_option linter.unusedVariables false
set_option linter.unusedSimpArgs false
theorem one_any (k : Nat) (c : Int) (w : World) (hk : k < 3) (h1 : -9223372036854775808 ≤ c) (h2 : c ≤ 9223372036854775807) :
    Calls Tryz.prog 36 #[.int .u8 (kb k), .int .i64 c] w fun e w' => ∃ nv sv, e = .returned (.agg #[.int .u8 (kb k), nv, sv, .string (oneP k c), .string (oneO k c)]) ∧ ThgAt w' w.heap.size k nv sv ∧ Below w.heap.size w w' := by
  rcases (by omega : k = 0 ∨ k = 1 ∨ k = 2) with rfl | rfl | rfl
  · exact one_n c w h1 h2
  · exact one_b c w h1 h2
  · exact one_s c w h1 h2
end Go.Proofs.YtdebjhdafnpfkabGreatDoor

namespace Go.Proofs.YtdebjhdafnpfkabGreatDoor
open Go.ChangeShapes Go.WideShapes Go.ChangeAt Go.RowKit
set_option linter.unusedVariables false
set_option linter.unusedSimpArgs false
theorem num_le (c : Int) : (numP c).size ≤ (numO c).size := by
  unfold numP numO odB
  have e1 : (⟨#[45]⟩ : ByteArray).size = 1 := rfl
  have e2 : (⟨#[if numM c = true then 45 else 43]⟩ : ByteArray).size = 1 := rfl
  have e3 : (⟨#[95]⟩ : ByteArray).size = 1 := rfl
  have h : (if 2 < (dgtB (numN c)).size then (dgtB (numN c)).extract 0 1 ++ ⟨#[95]⟩ ++ (dgtB (numN c)).extract 1 (dgtB (numN c)).size else dgtB (numN c)).size ≥ (dgtB (numN c)).size := by
    split
    · simp only [ByteArray.size_append, ByteArray.size_extract, e3]; omega
    · exact Nat.le_refl _
  rw [ByteArray.size_append, e2]
  split
  · rw [ByteArray.size_append, e1]; omega
  · omega
theorem one_le (k : Nat) (c : Int) : (oneP k c).size ≤ (oneO k c).size := by
  unfold oneP oneO
  split
  · exact num_le c
  · exact Nat.le_refl _
theorem lst_le (g h : Nat → ByteArray) (hh : ∀ i, (g i).size ≤ (h i).size) : ∀ n, (lstP g n).size ≤ (lstO h n).size
  | 0 => by show 1 ≤ 3; omega
  | n + 1 => by
    have h1 := lst_le g h hh n
    have h2 := hh n
    have e1 : (⟨#[44, 32]⟩ : ByteArray).size = 2 := rfl
    have e2 : (⟨#[32, 44, 10, 9]⟩ : ByteArray).size = 4 := rfl
    unfold lstP lstO
    split <;> simp only [ByteArray.size_append, e1, e2] <;> omega
theorem th_le (c : Int) : (thP c).size ≤ (thO c).size := by
  unfold thP thO
  split
  · rw [ByteArray.size_append, ByteArray.size_append]
    exact Nat.add_le_add_right (lst_le _ _ (fun i => one_le _ _) _) _
  · exact one_le _ _
theorem hd_le (i : Nat) (c : Int) : (hdP i c).size ≤ (hdO i c).size := by
  unfold hdP hdO
  split
  · simp only [ByteArray.size_append]; show 2 + _ + 2 ≤ 4 + _ + 4; omega
  · split
    · decide
    · split
      · simp only [ByteArray.size_append]; show 3 + _ + 1 ≤ 4 + _ + 3; omega
      · decide
theorem pr_le (i : Nat) (c : Int) : (prP i c).size ≤ (prO i c).size := by
  have h3 := th_le (c.tdiv 11)
  have e1 : (⟨#[32, 61, 32]⟩ : ByteArray).size = 3 := rfl
  have e2 : (⟨#[10]⟩ : ByteArray).size = 1 := rfl
  have e3 : (⟨#[9, 32]⟩ : ByteArray).size = 2 := rfl
  have e4 : (⟨#[61]⟩ : ByteArray).size = 1 := rfl
  have e5 : (⟨#[32, 10]⟩ : ByteArray).size = 2 := rfl
  have e6 : (⟨#[32, 35, 32, 115]⟩ : ByteArray).size = 4 := rfl
  have e7 : (⟨#[35, 115]⟩ : ByteArray).size = 2 := rfl
  have e8 : (⟨#[32, 32]⟩ : ByteArray).size = 2 := rfl
  have e9 : (⟨#[]⟩ : ByteArray).size = 0 := rfl
  unfold prP prO
  split <;> simp only [ByteArray.size_append, e1, e2, e3, e4, e5, e6, e7, e8, e9] <;> omega
theorem mk_le (raw : List Int) : ∀ k, (mkP raw k).size ≤ (mkO raw k).size
  | 0 => Nat.le_refl _
  | k + 1 => by
    have h1 := mk_le raw k
    have h3 := hd_le k (rw_ raw k)
    have h4 := pr_le k (rw_ raw k)
    unfold mkP mkO
    simp only [ByteArray.size_append]
    omega
theorem lay_bIt : LayIt bIt := ⟨fun h => (by cases h), (by decide), (by decide)⟩
theorem lay_hIt (i : Nat) : LayIt (hIt i) := ⟨fun h => (by cases h), by
  show (tbB i).size ≤ 100
  have := dig_size i
  unfold tbB
  rw [ByteArray.size_append, l10]
  omega, Nat.zero_le _⟩
theorem lay_rIt (R : ByteArray) (h : R.size ≤ 100000) : LayIt (rIt R) := ⟨fun h => (by cases h), by show (⟨#[]⟩ : ByteArray).size ≤ 100; decide, h⟩
theorem lay_pIt (tab : List ByteArray) (i : Nat) (c : Int) (R : ByteArray) (h : R.size ≤ 100000) : LayIt (pIt tab i c R) := ⟨fun _ => good_th _, by
  show (nmB i c).size ≤ 100
  have := nm_size i c
  omega, h⟩
theorem lay_hiO (i : Nat) (c : Int) : ∀ t ∈ hiO i c, LayIt t := by
  have := dig_size i
  unfold hiO
  intro t ht
  split at ht
  · rw [List.mem_singleton] at ht; subst ht; exact lay_hIt i
  · split at ht
    · simp only [List.mem_cons, List.not_mem_nil, or_false, or_self] at ht; subst ht; exact lay_bIt
    · split at ht
      · rw [List.mem_singleton] at ht; subst ht
        exact lay_rIt _ (by simp only [ByteArray.size_append]; show 2 + _ + 2 ≤ _; omega)
      · cases ht
theorem rm_sz (i : Nat) (c : Int) : (rmP i c).size ≤ 100000 ∧ (rmO i c).size ≤ 100000 := by
  have := dig_size i
  unfold rmP rmO
  split
  · simp only [ByteArray.size_append]
    refine ⟨?_, ?_⟩
    · show 3 + _ ≤ _; omega
    · show 2 + _ + 3 ≤ _; omega
  · decide
theorem lay_itO (raw : List Int) : ∀ k, ∀ t ∈ itO raw k, LayIt t
  | 0 => fun t h => by cases h
  | k + 1 => fun t h => by
    unfold itO at h
    rcases List.mem_append.1 h with h | h
    · exact lay_itO raw k t h
    · rcases List.mem_append.1 h with h | h
      · exact lay_hiO _ _ t h
      · rw [List.mem_singleton] at h; subst h
        exact lay_pIt _ _ _ _ (rm_sz _ _).2
theorem ks_any (wd : Nat) (h1 : 20 ≤ wd) (h2 : wd ≤ 200) : decide ((wd : Int) < 20) = false ∧ decide ((200 : Int) < wd) = false := ⟨by simp; omega, by simp; omega⟩
set_option maxHeartbeats 1000000 in
theorem format_any (T : Nat → Nat) (wd : Nat) (hw1 : 20 ≤ wd) (hw2 : wd ≤ 200) (items : List It) (d q : Nat) (w0 w : World) (hd : w.cell? ⟨d, 0, none⟩ = some (ptr q)) (hsh : SheetOk w0 w q items) (hT : TabW T w) (hG : 4 < w.heap.size) (hit : ∀ t ∈ items, LayIt t) :
    Calls Tryz.prog 9 #[ptr d, .int .i64 wd] w fun e w' => e = .returned (.tuple #[.string (textOf (layOf (flatV (fnT T)) wd items)), .nilIface]) ∧ Below w.heap.size w w' ∧ (textOf (layOf (flatV (fnT T)) wd items)).size ≤ 20000000000 := by
  have HL : Hid (Calls Tryz.prog 20 #[ptr q, .int .i64 wd] w fun e w' => e = .returned (.string (textOf (layOf (flatV (fnT T)) wd items))) ∧ Below w.heap.size w w' ∧ (textOf (layOf (flatV (fnT T)) wd items)).size ≤ 20000000000) := lay_any T wd items q w0 w hsh hT hG hit hsh.2.1
  obtain ⟨t1, t2⟩ := ks_any wd hw1 hw2
  clear hsh hT hit
  go_enter Tryz.func9, Tryz.ntmps9
  go_wp2_with fail
  refine (open_ok d q _ hd).mono ?_
  rintro e w1 ⟨rfl, hw1⟩
  rw [hw1]
  clear hw1
  go_wp2_with fail
  refine HL.out.mono ?_
  rintro e w2 ⟨rfl, hB⟩
  have HB := hid hB
  clear hB
  go_wp2_with fail
  go_ret2
  exact ⟨rfl, HB.out.1, HB.out.2⟩
set_option maxHeartbeats 1000000 in
theorem ksame_true (l1 l2 : Nat) (pv wv : Value) (p : List ByteArray) (w : World) (hp : w.ownsRow l1 9 1 pv p.length (p.map .string)) (hq : w.ownsRow l2 9 1 wv p.length (p.map .string)) (hpl : p.length ≤ 10000) :
    Calls Tryz.prog 13 #[pv, wv] w fun e w' => e = .returned (.bool true) ∧ ∃ n, w' = w.drewN n := by
  have Hp : Hid (w.ownsRow l1 9 1 pv p.length (p.map .string)) := hp
  have Hq : Hid (w.ownsRow l2 9 1 wv p.length (p.map .string)) := hq
  clear hp hq
  obtain ⟨ap, cp, e1⟩ := owns_form Hp.out
  obtain ⟨aq, cq, e2⟩ := owns_form Hq.out
  subst e1
  subst e2
  go_enter Tryz.func13, Tryz.ntmps13
  go_wp2_with fail
  go_loopw [5] (fun i wr => ∃ k : Nat, k ≤ p.length ∧ i = .int .i64 k ∧ ∃ n, wr = w.drewN n) (fun i _ => p.length - (intOf i).toNat)
  case atStart => exact ⟨0, Nat.zero_le _, rfl, 0, rfl⟩
  case round =>
    obtain ⟨k, hk, rfl, n, rfl⟩ := hrel
    by_cases hkq : k < p.length
    · obtain ⟨gp, e1, hc1⟩ := row_cell Hp.out k hkq
      obtain ⟨gq, e2, hc2⟩ := row_cell Hq.out k hkq
      subst e1
      subst e2
      have t1 : decide (k < p.length) = true := by simpa using hkq
      have ts : (p[k].toList == p[k].toList) = true := by rw [toList_beq]; simp
      go_wp2_with fail
      go_quiet (fail)
      go_wp2_with fail
      go_roundw
      case rel => exact ⟨k + 1, by omega, by go_num, _, rfl⟩
      case measure => simp [intOf]; omega
    · have t1 : decide (k < p.length) = false := by simpa using hkq
      go_wp2_with fail
      go_ret
      exact ⟨rfl, _, rfl⟩
end Go.Proofs.YtdebjhdafnpfkabGreatDoor

namespace Go.Proofs.YtdebjhdafnpfkabGreatDoor
open Go.ChangeShapes Go.WideShapes Go.ChangeAt Go.RowKit
set_option linter.unusedVariables false
set_option linter.unusedSimpArgs false
theorem parse_ok (s : ByteArray) (its : List It) (n : Nat) (w : World) (m : Int) (hr : rread s = (s0 n, its)) (hs63 : s.size ≤ 4611686018427387904) (hm : w.cell? ⟨1, 0, none⟩ = some (.int .i64 m))
    (hg : w.cell? ⟨0, 0, none⟩ = some (.iface 137 (.agg #[.pointer (some ⟨7, 29, none⟩)]))) :
    Calls Tryz.prog 8 #[.string s] w fun e w' => ∃ d q, e = .returned (.tuple #[ptr d, .nilIface]) ∧ w.heap.size ≤ d ∧ d < w'.heap.size ∧ w'.cell? ⟨d, 0, none⟩ = some (ptr q) ∧ SheetOk w w' q its ∧ Below w.heap.size w w' := by
  refine (parse_any s w m hs63 hm hg).mono fun e w' h => ?_
  rcases h with ⟨_, d, q, h1, h2, h3, h4, h5, h6⟩ | ⟨h0, _⟩
  · rw [hr] at h5
    exact ⟨d, q, h1, h2, h3, h4, h5, h6⟩
  · rw [hr] at h0
    exact absurd rfl h0
theorem TabW.below {T : Nat → Nat} {w w' : World} (h : TabW T w) (hG : 4 < w.heap.size) (hb : Below w.heap.size w w') : TabW T w' := fun i hi => (hb.cell (p := ⟨4, i, none⟩) hG).trans (h i hi)
/-- What of the world the program's answers hang on. -/
structure WOk (T : Nat → Nat) (m : Int) (w : World) : Prop where
  m : w.cell? ⟨1, 0, none⟩ = some (.int .i64 m)
  g : w.cell? ⟨0, 0, none⟩ = some (.iface 137 (.agg #[.pointer (some ⟨7, 29, none⟩)]))
  t : TabW T w
theorem WOk.lt {T : Nat → Nat} {m : Int} {w : World} (h : WOk T m w) : 4 < w.heap.size := lt_of_cell (h.t 0 (by decide))
theorem WOk.below {T : Nat → Nat} {m : Int} {w w' : World} (h : WOk T m w) (hb : Below w.heap.size w w') : WOk T m w' :=
  ⟨(hb.cell (p := ⟨1, 0, none⟩) (lt_of_cell h.m)).trans h.m, (hb.cell (p := ⟨0, 0, none⟩) (lt_of_cell h.g)).trans h.g, h.t.below h.lt hb⟩
theorem SheetOk.below {w0 w w' : World} {q : Nat} {items : List It} (h : SheetOk w0 w q items) (hb : Below w.heap.size w w') : SheetOk w0 w' q items := h.frame (Nat.le_refl _) hb.size (fun k _ k2 => hb.block k k2)
end Go.Proofs.YtdebjhdafnpfkabGreatDoor

namespace Go.Proofs.YtdebjhdafnpfkabGreatDoor
open Go.ChangeShapes Go.WideShapes Go.ChangeAt Go.ChangeMaps Go.RowKit
set_option linter.unusedVariables false
set_option linter.unusedSimpArgs false
theorem Tryz.laidOut : laidOutB Tryz.prog = true := by kernel_rfl
theorem u64_nat {n : Int} (h : IntKind.u64.has n) : 0 ≤ n := by
  unfold IntKind.has at h
  exact h.1
set_option maxRecDepth 100000 in
/-- The table of powers of ten holds some numbers. -/
theorem tab_of_shape {W : World} (h : W.ShapedOpen Tryz.prog) : ∃ T, TabW T W := by
  obtain ⟨cs, hh, hs, hr⟩ := h.1 4 (Array.replicate 20 (.int .u64 0)) 244 (of_decide_eq_true (by kernel_rfl)) (by kernel_rfl)
  have hs20 : cs.size = 20 := hs.trans (by simp)
  obtain ⟨ts, hts, _, hall⟩ := hr (by kernel_rfl)
  have hc : Tryz.prog.cellTypes Tryz.prog.depth 244 = some (List.replicate 20 172) := by kernel_rfl
  obtain rfl : List.replicate 20 172 = ts := Option.some.inj (hc.symm.trans hts)
  have each : ∀ i, i < 20 → ∃ n : Nat, W.cell? ⟨4, i, none⟩ = some (.int .u64 n) := by
    intro i hi
    obtain ⟨u, hu, hok⟩ := hall i (cs[i]'(by omega)) (by simp [hs20, hi])
    have hu' : u = 172 := by
      have hm := List.mem_of_getElem? hu
      exact (List.mem_replicate.1 hm).2
    subst hu'
    have hcell : W.cell? ⟨4, i, none⟩ = some (cs[i]'(by omega)) := by simp [World.cell?, hh, hs20, hi]
    rw [hcell]
    unfold Cell.ok at hok
    rw [Tryz.underlying172] at hok
    cases hv : cs[i]'(by omega) <;> rw [hv] at hok <;> simp at hok
    case int k n =>
      obtain ⟨rfl, hn⟩ := hok
      have := u64_nat hn
      exact ⟨n.toNat, by rw [show ((n.toNat : Nat) : Int) = n by omega]⟩
  exact ⟨fun i => if h : i < 20 then (each i h).choose else 0, fun i hi => by
    have := (each i hi).choose_spec
    simp only [hi, dite_true]
    exact this⟩
theorem i64_rng {n : Int} (h : (Lit.int .i64 n).wf = true) : -9223372036854775808 ≤ n ∧ n ≤ 9223372036854775807 := by
  unfold Lit.wf at h
  rw [Bool.and_eq_true, decide_eq_true_eq, decide_eq_true_eq] at h
  have e1 : IntKind.i64.min = -9223372036854775808 := by decide
  have e2 : IntKind.i64.max = 9223372036854775807 := by decide
  omega
theorem wok_of {W : World} (hL : laidMetH Tryz.prog theLaid W) (hsh : W.ShapedOpen Tryz.prog) : ∃ T m, WOk T m W := by
  obtain ⟨m, hm⟩ := maxLen_of_shape hsh
  obtain ⟨T, hT⟩ := tab_of_shape hsh
  exact ⟨T, m, hm, handle_of_laid hL, hT⟩
set_option maxRecDepth 100000 in
/-- A slice of ints that came in. -/
theorem raw_of {H : Type} {enc : TypeId × Value → H} {W : World} {base : Nat} {v : Value} {d : DataW H} {p : List MemPlace} (hv : Value.okWide Tryz.prog W .any base 22 v) (h : DataW.Trod enc Tryz.prog W 0 (fun _ => true) true 22 v d p) :
    ∃ raw : List Int, SubRow W v raw.length (raw.map (Value.int .i64 ·)) ∧ (∀ x ∈ raw, -9223372036854775808 ≤ x ∧ x ≤ 9223372036854775807) ∧ raw.length ≤ 9223372036854775807 := by
  obtain ⟨a0, len0, cap0, rfl⟩ := okWide_slice Tryz.underlying22 hv
  obtain ⟨fuel, hf⟩ := h
  rcases open_ints Tryz.underlying22 Tryz.underlying3 (by kernel_rfl) hf with ⟨hcs, _⟩ | ⟨x, l, c, zs, hcs, _, hl, hm, hz, _, hcell, hwz⟩
  · simp [Value.cells] at hcs
    obtain ⟨rfl, rfl, rfl⟩ := hcs
    exact ⟨[], ⟨rfl, ⟨none, 0, rfl⟩, fun k v hk => by simp at hk⟩, fun x hx => (by cases hx), by decide⟩
  · simp [Value.cells] at hcs
    obtain ⟨rfl, rfl, rfl⟩ := hcs
    have hz' : zs.length = cap0 := by simpa using hz
    unfold maxLen at hm
    have hlen : (zs.take len0).length = len0 := by rw [List.length_take]; omega
    refine ⟨zs.take len0, ⟨by simp, ⟨some x, cap0, by rw [hlen]⟩, fun k v hk => ?_⟩, fun n hn => i64_rng (hwz n (List.mem_of_mem_take hn)), by omega⟩
    rw [List.getElem?_map] at hk
    cases hy : (zs.take len0)[k]? with
    | none => rw [hy] at hk; cases hk
    | some y =>
      rw [hy] at hk
      simp only [Option.map_some, Option.some.injEq] at hk
      subst hk
      have hk1 : k < (zs.take len0).length := (List.getElem?_eq_some_iff.1 hy).1
      have hkl : k < len0 := by omega
      have hc := hcell k (by omega)
      obtain ⟨b, off, spot⟩ := x
      have hspot : spot = none := by simpa [Addr.add] using World.cell?_spot (hcell 0 (by omega))
      subst hspot
      have hy2 : zs[k]? = some y := by rw [List.getElem?_take] at hy; simpa [hkl] using hy
      have e : zs.getD k 0 = y := by simp [List.getD, hy2]
      rw [e] at hc
      have ha : (⟨b, off, none⟩ : Addr).add k = ⟨b, off + k, none⟩ := by
        by_cases hk0 : k = 0
        · subst hk0; rfl
        · simp [Addr.add, hk0]
      have hc' : W.cell? ⟨b, off + k, none⟩ = some (.int .i64 y) := by rw [← ha]; exact hc
      exact ⟨some ⟨b, off, none⟩, cap0, b, off, by rw [hlen], rfl, lt_of_cell hc', hc'⟩
end Go.Proofs.YtdebjhdafnpfkabGreatDoor

namespace Go.Proofs.YtdebjhdafnpfkabGreatDoor
open Go.ChangeShapes Go.WideShapes Go.ChangeAt Go.RowKit
set_option linter.unusedVariables false
set_option linter.unusedSimpArgs false
theorem lns_len (s : ByteArray) : ∀ i, (lnsAt s i).1.length ≤ i
  | 0 => Nat.le_refl _
  | i + 1 => by
    have := lns_len s i
    unfold lnsAt
    split
    · simp only [List.length_append, List.length_cons, List.length_nil]; omega
    · omega
theorem bt_get (s : ByteArray) (k : Nat) (h : k < s.size) : bt s k = s[k].toNat := by
  unfold bt
  simp [h]
theorem lns_nl {s : ByteArray} {k : Nat} (h : bt s k = 10) : lnsAt s (k + 1) = ((lnsAt s k).1 ++ [s.extract (lnsAt s k).2 k], k + 1) := by
  conv => lhs; unfold lnsAt
  rw [if_pos h]
theorem lns_other {s : ByteArray} {k : Nat} (h : bt s k ≠ 10) : lnsAt s (k + 1) = lnsAt s k := by
  conv => lhs; unfold lnsAt
  rw [if_neg h]
set_option maxRecDepth 100000 in
set_option maxHeartbeats 1000000 in
/-- The lines of any text. -/
theorem lines_any (s : ByteArray) (w : World) (hs : s.size ≤ 20000000000) :
    Calls Tryz.prog 10 #[.string s] w fun e w' => ∃ lv, e = .returned lv ∧ w'.ownsRow w.heap.size 9 1 lv (linesOf s).length ((linesOf s).map .string) ∧ Below w.heap.size w w' := by
  obtain ⟨i0, hi, hz0, hz1, hz2⟩ := info_parts info_string
  go_enter Tryz.func10, Tryz.ntmps10
  go_wp2_with fail
  go_loopw [3, 4, 5] (fun lv av i wr => ∃ k : Nat, k ≤ s.size ∧ i = .int .i64 k ∧ ∃ (ls : List ByteArray) (at_ : Nat), av = .int .i64 at_ ∧ at_ ≤ k ∧ ls.length ≤ k ∧ Hid (lnsAt s k = (ls, at_)) ∧ Hid (wr.ownsRow w.heap.size 9 1 lv ls.length (ls.map .string)) ∧ Hid (Below w.heap.size w wr)) (fun _ _ i _ => s.size - (intOf i).toNat)
  case atStart => exact ⟨0, Nat.zero_le _, rfl, [], 0, rfl, Nat.le_refl _, Nat.le_refl _, rfl, World.ownsRow_nil _ _ _ _, Below.refl _ _⟩
  case round =>
    obtain ⟨k, hk, rfl, ls, at_, rfl, hat, hll, hln, hown, hbw⟩ := hrel
    obtain ⟨al, cl, el⟩ := owns_form hown.out
    subst el
    by_cases hkl : k < s.size
    · have hb := bt_get s k hkl
      by_cases hnl : bt s k = 10
      · have t1 : ((s[k].toNat : Int) == 10) = true := by simp; omega
        have HL : Hid (lnsAt s (k + 1) = (ls ++ [s.extract at_ k], k + 1)) := by unfold Hid; rw [lns_nl hnl, hln.out]
        have hsl : ∀ W : World, (Instr.slice 9 (.string s) (some (.int .i64 (at_ : Int))) (some (.int .i64 (k : Int))) none).run Tryz.prog W = .ok (.string (s.extract at_ k)) W := fun W => by
          have := run_slice_string (P := Tryz.prog) W 9 s .i64 .i64 (at_ : Int) (k : Int) Tryz.underlying9 (by omega) (by omega) (by omega)
          simpa using this
        clear hb hnl hln
        have HZ := hid hbw.out.size
        have hzz := HZ.out
        go_wp2_with (at_builtin; refine wpList_append_own_at _ rfl (.tmp 16) (.tmp 21) 25 rfl w.heap.size 9 i0 (.string ⟨#[]⟩) 1 16 Tryz.underlying25 hi hz0 hz1 hz2 rfl (by decide) _ _ _ rfl (hown.out.alloc _) ⟨_, 0, none⟩ 1 1 [.string (s.extract at_ k)] rfl rfl (cell_one_new _ _ _) (by intro u hu; simp at hu; subst hu; rfl) (by unfold maxLen; omega) (by omega) (by simp; omega) ?_; intro v1 w6 hown6 hgrow6 hnil6 hat6; refine Hid.out ?_)
        have hb6 := hid ((hbw.out.alloc hbw.out.size _).grown hgrow6 (by simp; omega) (fun k hk => (hown.out.lt k hk).1))
        have hown7 := hid hown6
        obtain ⟨a6, c6, e6⟩ := owns_form hown6
        subst e6
        clear hown6 hgrow6 hnil6 hat6
        unfold Hid
        go_wp2_with fail
        go_roundw
        case rel => exact ⟨k + 1, by omega, by go_num, ls ++ [s.extract at_ k], k + 1, by go_num, by omega, by simp; omega, HL, by simpa using hown7, hb6⟩
        case measure => simp [intOf]; omega
      · have t1 : ((s[k].toNat : Int) == 10) = false := by simp; omega
        have HL : Hid (lnsAt s (k + 1) = (ls, at_)) := by unfold Hid; rw [lns_other hnl, hln.out]
        clear hb hnl hln
        go_wp2_with fail
        go_roundw
        case rel => exact ⟨k + 1, by omega, by go_num, ls, at_, rfl, by omega, by omega, HL, hown, hbw⟩
        case measure => simp [intOf]; omega
    · have hge : s.size ≤ k := by omega
      have FL : Hid (linesOf s = ls) := by
        unfold Hid linesOf
        rw [show s.size = k by omega, hln.out]
      clear hln
      go_wp2_with fail
      go_ret
      exact ⟨_, rfl, by rw [FL.out]; exact hown.out, hbw.out⟩
end Go.Proofs.YtdebjhdafnpfkabGreatDoor

namespace Go.Proofs.YtdebjhdafnpfkabGreatDoor
open Go.ChangeShapes Go.WideShapes Go.ChangeAt Go.RowKit
set_option linter.unusedVariables false
set_option linter.unusedSimpArgs false
theorem lines_size (s : ByteArray) : ∀ i, i ≤ s.size → ∀ l ∈ (lnsAt s i).1, l.size ≤ s.size
  | 0, _, l, h => by simp [lnsAt] at h
  | i + 1, hi, l, h => by
    unfold lnsAt at h
    split at h
    · rcases List.mem_append.1 h with h | h
      · exact lines_size s i (by omega) l h
      · rw [List.mem_singleton] at h
        subst h
        rw [ByteArray.size_extract]
        omega
    · exact lines_size s i (by omega) l h
end Go.Proofs.YtdebjhdafnpfkabGreatDoor
