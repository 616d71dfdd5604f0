import Derived.Test.YtdebjhdafnpfkaaGreatDoorS29
import Derived.Test.YtdebjhdafnpfkaaGreatDoorS39
import Derived.Test.YtdebjhdafnpfkaaGreatDoorS40
import Derived.Test.YtdebjhdafnpfkaaGreatDoorS36
namespace Go.Proofs.YtdebjhdafnpfkaaGreatDoor
open Go.ChangeShapes Go.WideShapes Go.ChangeAt Go.RowKit
set_option linter.unusedVariables false
set_option linter.unusedSimpArgs false
set_option maxRecDepth 100000 in
set_option maxHeartbeats 4000000 in
theorem one_n (c : Int) (w : World) (h1 : -9223372036854775808 ≤ c) (h2 : c ≤ 9223372036854775807) :
    Calls Tryz.prog 72 #[.int .u8 (kb 0), .int .i64 c] w fun e w' => ∃ nv sv, e = .returned (.agg #[.int .u8 (kb 0), nv, sv, .string (oneP 0 c), .string (oneO 0 c)]) ∧ ThgAt w' w.heap.size 0 nv sv ∧ Below w.heap.size w w' := by
  have hB0 : Below w.heap.size w (w.alloc (.cells #[.int .u8 0, .slice none 0 0, .slice none 0 0, .string ⟨#[]⟩, .string ⟨#[]⟩] 90)) := (Below.refl _ _).alloc (Nat.le_refl _) _
  have T0 := TB.new w (.int .u8 0) (.slice none 0 0) (.slice none 0 0) (.string ⟨#[]⟩) (.string ⟨#[]⟩)
  have HB0 : Hid _ := hB0
  have HT0 : Hid _ := T0
  clear hB0 T0
  have HN : Hid _ := fun w => knumber_any c w h1 h2
  have HF : Hid (oneP 0 c = numP c ∧ oneO 0 c = numO c) := ⟨rfl, rfl⟩
  show Calls Tryz.prog 72 #[.int .u8 110, .int .i64 c] w _
  go_enter Tryz.func72, Tryz.ntmps72
  go_wp2_with fail
  generalize (w.alloc (.cells #[.int .u8 0, .slice none 0 0, .slice none 0 0, .string ⟨#[]⟩, .string ⟨#[]⟩] 90)) = W0 at *
  refine (HN.out W0).mono ?_
  rintro e w1 ⟨rfl, hB1⟩
  have T1 := HT0.out.below hB1 HT0.out.lt
  have HB1 : Hid (Below w.heap.size w w1) := HB0.out.trans (hB1.mono HB0.out.size)
  have hz1 : w.heap.size ≤ w1.heap.size := HB1.out.size
  have HFin : Hid _ := one_fin HB1.out T1 (.int .u8 110) (.slice (some ⟨w1.heap.size, 0, none⟩) 1 1) (.slice none 0 0) (.string (numP c)) (.string (numO c)) (.int .i64 (numI c)) 3
  obtain ⟨c0, c1, c2, c3, c4, cF, cl⟩ := T1
  clear hB1 HT0 HB0
  go_wp2_with fail
  obtain ⟨⟨f0, f1, f2, f3, f4, fF, fl⟩, hBF, hx⟩ := HFin.out
  refine bodyPost_ret (v := .agg #[.int .u8 110, .slice (some ⟨w1.heap.size, 0, none⟩) 1 1, .slice none 0 0, .string (numP c), .string (numO c)]) (by unfold putT at f0 f1 f2 f3 f4; simp [results, Tryz.results72, go_sem, f0, f1, f2, f3, f4]) rfl ?_
  exact ⟨_, _, by rw [HF.out.1, HF.out.2]; rfl, .inl ⟨by decide, rfl, _, _, rfl, hz1, hx⟩, hBF⟩
end Go.Proofs.YtdebjhdafnpfkaaGreatDoor

namespace Go.Proofs.YtdebjhdafnpfkaaGreatDoor
open Go.ChangeShapes Go.WideShapes Go.ChangeAt Go.RowKit
set_option linter.unusedVariables false
set_option linter.unusedSimpArgs false
set_option maxRecDepth 100000 in
set_option maxHeartbeats 4000000 in
theorem one_b (c : Int) (w : World) (h1 : -9223372036854775808 ≤ c) (h2 : c ≤ 9223372036854775807) :
    Calls Tryz.prog 72 #[.int .u8 (kb 1), .int .i64 c] w fun e w' => ∃ nv sv, e = .returned (.agg #[.int .u8 (kb 1), nv, sv, .string (oneP 1 c), .string (oneO 1 c)]) ∧ ThgAt w' w.heap.size 1 nv sv ∧ Below w.heap.size w w' := by
  have hB0 : Below w.heap.size w (w.alloc (.cells #[.int .u8 0, .slice none 0 0, .slice none 0 0, .string ⟨#[]⟩, .string ⟨#[]⟩] 90)) := (Below.refl _ _).alloc (Nat.le_refl _) _
  have T0 := TB.new w (.int .u8 0) (.slice none 0 0) (.slice none 0 0) (.string ⟨#[]⟩) (.string ⟨#[]⟩)
  have HB0 : Hid _ := hB0
  have HT0 : Hid _ := T0
  clear hB0 T0
  have HP : Hid (∀ w, Calls Tryz.prog 18 #[.int .i64 c, .int .i64 2] w fun e w' => e = .returned (.int .i64 (pk c 2)) ∧ w' = w) := fun w => pick_any c 2 w h1 h2 (by decide) (by decide)
  have HF : Hid (oneP 1 c = (if pk c 2 = 0 then falseS else trueS) ∧ oneO 1 c = (if pk c 2 = 0 then falseS else trueS)) := ⟨rfl, rfl⟩
  have hp2 := pk_lt c 2 (by decide)
  generalize pk c 2 = p at *
  show Calls Tryz.prog 72 #[.int .u8 98, .int .i64 c] w _
  go_enter Tryz.func72, Tryz.ntmps72
  go_wp2_with fail
  generalize (w.alloc (.cells #[.int .u8 0, .slice none 0 0, .slice none 0 0, .string ⟨#[]⟩, .string ⟨#[]⟩] 90)) = w1 at *
  refine (HP.out w1).mono ?_
  rintro e w2 ⟨rfl, hw2⟩
  rw [hw2]
  clear hw2 w2
  have hz1 : w.heap.size ≤ w1.heap.size := HB0.out.size
  by_cases hp : p = 0
  · have t3 : ((p : Int) == 0) = true := by simp; omega
    have HG : Hid (oneP 1 c = falseS ∧ oneO 1 c = falseS) := by unfold Hid; rw [HF.out.1, HF.out.2, if_pos hp]; exact ⟨rfl, rfl⟩
    have HFin : Hid _ := one_fin HB0.out HT0.out (.int .u8 98) (.slice (some ⟨w1.heap.size, 0, none⟩) 1 1) (.slice none 0 0) (.string falseS) (.string falseS) (.int .i64 0) 3
    obtain ⟨c0, c1, c2, c3, c4, cF, cl⟩ := HT0.out
    clear hp HT0 HB0
    go_wp2_with fail
    obtain ⟨⟨f0, f1, f2, f3, f4, fF, fl⟩, hBF, hx⟩ := HFin.out
    refine bodyPost_ret (v := .agg #[.int .u8 98, .slice (some ⟨w1.heap.size, 0, none⟩) 1 1, .slice none 0 0, .string falseS, .string falseS]) (by unfold putT falseS at f0 f1 f2 f3 f4; simp [results, Tryz.results72, go_sem, f0, f1, f2, f3, f4, falseS]) rfl ?_
    exact ⟨_, _, by rw [HG.out.1, HG.out.2]; rfl, .inl ⟨by decide, rfl, _, _, rfl, hz1, hx⟩, hBF⟩
  · have t3 : ((p : Int) == 0) = false := by simp; omega
    have HG : Hid (oneP 1 c = trueS ∧ oneO 1 c = trueS) := by unfold Hid; rw [HF.out.1, HF.out.2, if_neg hp]; exact ⟨rfl, rfl⟩
    have HFin : Hid _ := one_fin HB0.out HT0.out (.int .u8 98) (.slice (some ⟨w1.heap.size, 0, none⟩) 1 1) (.slice none 0 0) (.string trueS) (.string trueS) (.int .i64 1) 3
    obtain ⟨c0, c1, c2, c3, c4, cF, cl⟩ := HT0.out
    clear hp HT0 HB0
    go_wp2_with fail
    obtain ⟨⟨f0, f1, f2, f3, f4, fF, fl⟩, hBF, hx⟩ := HFin.out
    refine bodyPost_ret (v := .agg #[.int .u8 98, .slice (some ⟨w1.heap.size, 0, none⟩) 1 1, .slice none 0 0, .string trueS, .string trueS]) (by unfold putT trueS at f0 f1 f2 f3 f4; simp [results, Tryz.results72, go_sem, f0, f1, f2, f3, f4, trueS]) rfl ?_
    exact ⟨_, _, by rw [HG.out.1, HG.out.2]; rfl, .inl ⟨by decide, rfl, _, _, rfl, hz1, hx⟩, hBF⟩
end Go.Proofs.YtdebjhdafnpfkaaGreatDoor

namespace Go.Proofs.YtdebjhdafnpfkaaGreatDoor
open Go.ChangeShapes Go.WideShapes Go.ChangeAt Go.RowKit
set_option linter.unusedVariables false
set_option linter.unusedSimpArgs false
set_option maxRecDepth 100000 in
set_option maxHeartbeats 4000000 in
theorem one_s (c : Int) (w : World) (h1 : -9223372036854775808 ≤ c) (h2 : c ≤ 9223372036854775807) :
    Calls Tryz.prog 72 #[.int .u8 (kb 2), .int .i64 c] w fun e w' => ∃ nv sv, e = .returned (.agg #[.int .u8 (kb 2), nv, sv, .string (oneP 2 c), .string (oneO 2 c)]) ∧ ThgAt w' w.heap.size 2 nv sv ∧ Below w.heap.size w w' := by
  have hB0 : Below w.heap.size w (w.alloc (.cells #[.int .u8 0, .slice none 0 0, .slice none 0 0, .string ⟨#[]⟩, .string ⟨#[]⟩] 90)) := (Below.refl _ _).alloc (Nat.le_refl _) _
  have T0 := TB.new w (.int .u8 0) (.slice none 0 0) (.slice none 0 0) (.string ⟨#[]⟩) (.string ⟨#[]⟩)
  have HB0 : Hid _ := hB0
  have HT0 : Hid _ := T0
  clear hB0 T0
  have HN : Hid _ := fun w => kword_any c w h1 h2
  have HF : Hid (oneP 2 c = wordW c ∧ oneO 2 c = wordW c) := ⟨rfl, rfl⟩
  show Calls Tryz.prog 72 #[.int .u8 115, .int .i64 c] w _
  go_enter Tryz.func72, Tryz.ntmps72
  go_wp2_with fail
  generalize (w.alloc (.cells #[.int .u8 0, .slice none 0 0, .slice none 0 0, .string ⟨#[]⟩, .string ⟨#[]⟩] 90)) = W0 at *
  refine (HN.out W0).mono ?_
  rintro e w1 ⟨rfl, n1, hw1⟩
  have hB1 : Below W0.heap.size W0 w1 := by rw [hw1]; exact kbelow_drewN (Below.refl _ _) n1
  have T1 := HT0.out.below hB1 HT0.out.lt
  have HB1 : Hid (Below w.heap.size w w1) := HB0.out.trans (hB1.mono HB0.out.size)
  have hz1 : w.heap.size ≤ w1.heap.size := HB1.out.size
  have HFin : Hid _ := one_fin HB1.out T1 (.int .u8 115) (.slice none 0 0) (.slice (some ⟨w1.heap.size, 0, none⟩) 1 1) (.string (wordW c)) (.string (wordW c)) (.string (wordS c)) 9
  obtain ⟨c0, c1, c2, c3, c4, cF, cl⟩ := T1
  clear hB1 HT0 HB0 hw1
  go_wp2_with fail
  obtain ⟨⟨f0, f1, f2, f3, f4, fF, fl⟩, hBF, hx⟩ := HFin.out
  refine bodyPost_ret (v := .agg #[.int .u8 115, .slice none 0 0, .slice (some ⟨w1.heap.size, 0, none⟩) 1 1, .string (wordW c), .string (wordW c)]) (by unfold putT at f0 f1 f2 f3 f4; simp [results, Tryz.results72, go_sem, f0, f1, f2, f3, f4]) rfl ?_
  exact ⟨_, _, by rw [HF.out.1, HF.out.2]; rfl, .inr ⟨rfl, rfl, _, _, rfl, hz1, hx⟩, hBF⟩
end Go.Proofs.YtdebjhdafnpfkaaGreatDoor

namespace Go.Proofs.YtdebjhdafnpfkaaGreatDoor
open Go.ChangeShapes Go.WideShapes Go.ChangeAt Go.RowKit
set_option linter.unusedVariables false
set_option linter.unusedSimpArgs false
theorem one_any (k : Nat) (c : Int) (w : World) (hk : k < 3) (h1 : -9223372036854775808 ≤ c) (h2 : c ≤ 9223372036854775807) :
    Calls Tryz.prog 72 #[.int .u8 (kb k), .int .i64 c] w fun e w' => ∃ nv sv, e = .returned (.agg #[.int .u8 (kb k), nv, sv, .string (oneP k c), .string (oneO k c)]) ∧ ThgAt w' w.heap.size k nv sv ∧ Below w.heap.size w w' := by
  rcases (by omega : k = 0 ∨ k = 1 ∨ k = 2) with rfl | rfl | rfl
  · exact one_n c w h1 h2
  · exact one_b c w h1 h2
  · exact one_s c w h1 h2
end Go.Proofs.YtdebjhdafnpfkaaGreatDoor

namespace Go.Proofs.YtdebjhdafnpfkaaGreatDoor
open Go.ChangeShapes Go.WideShapes Go.ChangeAt Go.RowKit
set_option linter.unusedVariables false
set_option linter.unusedSimpArgs false
theorem num_le (c : Int) : (numP c).size ≤ (numO c).size := by
  unfold numP numO odB
  have e1 : (⟨#[45]⟩ : ByteArray).size = 1 := rfl
  have e2 : (⟨#[if numM c = true then 45 else 43]⟩ : ByteArray).size = 1 := rfl
  have e3 : (⟨#[95]⟩ : ByteArray).size = 1 := rfl
  have h : (if 2 < (dgtB (numN c)).size then (dgtB (numN c)).extract 0 1 ++ ⟨#[95]⟩ ++ (dgtB (numN c)).extract 1 (dgtB (numN c)).size else dgtB (numN c)).size ≥ (dgtB (numN c)).size := by
    split
    · simp only [ByteArray.size_append, ByteArray.size_extract, e3]; omega
    · exact Nat.le_refl _
  rw [ByteArray.size_append, e2]
  split
  · rw [ByteArray.size_append, e1]; omega
  · omega
theorem one_le (k : Nat) (c : Int) : (oneP k c).size ≤ (oneO k c).size := by
  unfold oneP oneO
  split
  · exact num_le c
  · exact Nat.le_refl _
theorem lst_le (g h : Nat → ByteArray) (hh : ∀ i, (g i).size ≤ (h i).size) : ∀ n, (lstP g n).size ≤ (lstO h n).size
  | 0 => by show 1 ≤ 3; omega
  | n + 1 => by
    have h1 := lst_le g h hh n
    have h2 := hh n
    have e1 : (⟨#[44, 32]⟩ : ByteArray).size = 2 := rfl
    have e2 : (⟨#[32, 44, 10, 9]⟩ : ByteArray).size = 4 := rfl
    unfold lstP lstO
    split <;> simp only [ByteArray.size_append, e1, e2] <;> omega
theorem th_le (c : Int) : (thP c).size ≤ (thO c).size := by
  unfold thP thO
  split
  · rw [ByteArray.size_append, ByteArray.size_append]
    exact Nat.add_le_add_right (lst_le _ _ (fun i => one_le _ _) _) _
  · exact one_le _ _
theorem hd_le (i : Nat) (c : Int) : (hdP i c).size ≤ (hdO i c).size := by
  unfold hdP hdO
  split
  · simp only [ByteArray.size_append]; show 2 + _ + 2 ≤ 4 + _ + 4; omega
  · split
    · decide
    · split
      · simp only [ByteArray.size_append]; show 3 + _ + 1 ≤ 4 + _ + 3; omega
      · decide
theorem pr_le (i : Nat) (c : Int) : (prP i c).size ≤ (prO i c).size := by
  have h3 := th_le (c.tdiv 11)
  have e1 : (⟨#[32, 61, 32]⟩ : ByteArray).size = 3 := rfl
  have e2 : (⟨#[10]⟩ : ByteArray).size = 1 := rfl
  have e3 : (⟨#[9, 32]⟩ : ByteArray).size = 2 := rfl
  have e4 : (⟨#[61]⟩ : ByteArray).size = 1 := rfl
  have e5 : (⟨#[32, 10]⟩ : ByteArray).size = 2 := rfl
  have e6 : (⟨#[32, 35, 32, 115]⟩ : ByteArray).size = 4 := rfl
  have e7 : (⟨#[35, 115]⟩ : ByteArray).size = 2 := rfl
  have e8 : (⟨#[32, 32]⟩ : ByteArray).size = 2 := rfl
  have e9 : (⟨#[]⟩ : ByteArray).size = 0 := rfl
  unfold prP prO
  split <;> simp only [ByteArray.size_append, e1, e2, e3, e4, e5, e6, e7, e8, e9] <;> omega
theorem mk_le (raw : List Int) : ∀ k, (mkP raw k).size ≤ (mkO raw k).size
  | 0 => Nat.le_refl _
  | k + 1 => by
    have h1 := mk_le raw k
    have h3 := hd_le k (rw_ raw k)
    have h4 := pr_le k (rw_ raw k)
    unfold mkP mkO
    simp only [ByteArray.size_append]
    omega
theorem lay_bIt : LayIt bIt := ⟨fun h => (by cases h), (by decide), (by decide)⟩
theorem lay_hIt (i : Nat) : LayIt (hIt i) := ⟨fun h => (by cases h), by
  show (tbB i).size ≤ 100
  have := dig_size i
  unfold tbB
  rw [ByteArray.size_append, l10]
  omega, Nat.zero_le _⟩
theorem lay_rIt (R : ByteArray) (h : R.size ≤ 100000) : LayIt (rIt R) := ⟨fun h => (by cases h), by show (⟨#[]⟩ : ByteArray).size ≤ 100; decide, h⟩
theorem lay_pIt (tab : List ByteArray) (i : Nat) (c : Int) (R : ByteArray) (h : R.size ≤ 100000) : LayIt (pIt tab i c R) := ⟨fun _ => good_th _, by
  show (nmB i c).size ≤ 100
  have := nm_size i c
  omega, h⟩
theorem lay_hiP (i : Nat) (c : Int) : ∀ t ∈ hiP i c, LayIt t := by
  have := dig_size i
  unfold hiP
  intro t ht
  split at ht
  · rw [List.mem_singleton] at ht; subst ht; exact lay_hIt i
  · split at ht
    · rw [List.mem_singleton] at ht; subst ht; exact lay_bIt
    · split at ht
      · rw [List.mem_singleton] at ht; subst ht
        exact lay_rIt _ (by rw [ByteArray.size_append, l4]; omega)
      · cases ht
theorem lay_hiO (i : Nat) (c : Int) : ∀ t ∈ hiO i c, LayIt t := by
  have := dig_size i
  unfold hiO
  intro t ht
  split at ht
  · rw [List.mem_singleton] at ht; subst ht; exact lay_hIt i
  · split at ht
    · simp only [List.mem_cons, List.not_mem_nil, or_false, or_self] at ht; subst ht; exact lay_bIt
    · split at ht
      · rw [List.mem_singleton] at ht; subst ht
        exact lay_rIt _ (by simp only [ByteArray.size_append]; show 2 + _ + 2 ≤ _; omega)
      · cases ht
theorem rm_sz (i : Nat) (c : Int) : (rmP i c).size ≤ 100000 ∧ (rmO i c).size ≤ 100000 := by
  have := dig_size i
  unfold rmP rmO
  split
  · simp only [ByteArray.size_append]
    refine ⟨?_, ?_⟩
    · show 3 + _ ≤ _; omega
    · show 2 + _ + 3 ≤ _; omega
  · decide
theorem lay_itP (raw : List Int) : ∀ k, ∀ t ∈ itP raw k, LayIt t
  | 0 => fun t h => by cases h
  | k + 1 => fun t h => by
    unfold itP at h
    rcases List.mem_append.1 h with h | h
    · exact lay_itP raw k t h
    · rcases List.mem_append.1 h with h | h
      · exact lay_hiP _ _ t h
      · rw [List.mem_singleton] at h; subst h
        exact lay_pIt _ _ _ _ (rm_sz _ _).1
theorem lay_itO (raw : List Int) : ∀ k, ∀ t ∈ itO raw k, LayIt t
  | 0 => fun t h => by cases h
  | k + 1 => fun t h => by
    unfold itO at h
    rcases List.mem_append.1 h with h | h
    · exact lay_itO raw k t h
    · rcases List.mem_append.1 h with h | h
      · exact lay_hiO _ _ t h
      · rw [List.mem_singleton] at h; subst h
        exact lay_pIt _ _ _ _ (rm_sz _ _).2
theorem ks_any (wd : Nat) (h1 : 20 ≤ wd) (h2 : wd ≤ 200) : decide ((wd : Int) < 20) = false ∧ decide ((200 : Int) < wd) = false := ⟨by simp; omega, by simp; omega⟩
set_option maxHeartbeats 1000000 in
theorem format_any (T : Nat → Nat) (wd : Nat) (hw1 : 20 ≤ wd) (hw2 : wd ≤ 200) (items : List It) (d q : Nat) (w0 w : World) (hd : w.cell? ⟨d, 0, none⟩ = some (ptr q)) (hsh : SheetOk w0 w q items) (hT : TabW T w) (hG : 4 < w.heap.size) (hit : ∀ t ∈ items, LayIt t) :
    Calls Tryz.prog 19 #[ptr d, .int .i64 wd] w fun e w' => e = .returned (.tuple #[.string (textOf (layOf (flatV (fnT T)) wd items)), .nilIface]) ∧ Below w.heap.size w w' ∧ (textOf (layOf (flatV (fnT T)) wd items)).size ≤ 20000000000 := by
  have HL : Hid (Calls Tryz.prog 43 #[ptr q, .int .i64 wd] w fun e w' => e = .returned (.string (textOf (layOf (flatV (fnT T)) wd items))) ∧ Below w.heap.size w w' ∧ (textOf (layOf (flatV (fnT T)) wd items)).size ≤ 20000000000) := lay_any T wd items q w0 w hsh hT hG hit hsh.2.1
  obtain ⟨t1, t2⟩ := ks_any wd hw1 hw2
  clear hsh hT hit
  go_enter Tryz.func19, Tryz.ntmps19
  go_wp2_with fail
  refine (open_ok d q _ hd).mono ?_
  rintro e w1 ⟨rfl, hw1⟩
  rw [hw1]
  clear hw1
  go_wp2_with fail
  refine HL.out.mono ?_
  rintro e w2 ⟨rfl, hB⟩
  have HB := hid hB
  clear hB
  go_wp2_with fail
  go_ret2
  exact ⟨rfl, HB.out.1, HB.out.2⟩
set_option maxHeartbeats 1000000 in
theorem ksame_true (l1 l2 : Nat) (pv wv : Value) (p : List ByteArray) (w : World) (hp : w.ownsRow l1 9 1 pv p.length (p.map .string)) (hq : w.ownsRow l2 9 1 wv p.length (p.map .string)) (hpl : p.length ≤ 10000) :
    Calls Tryz.prog 22 #[pv, wv] w fun e w' => e = .returned (.bool true) ∧ ∃ n, w' = w.drewN n := by
  have Hp : Hid (w.ownsRow l1 9 1 pv p.length (p.map .string)) := hp
  have Hq : Hid (w.ownsRow l2 9 1 wv p.length (p.map .string)) := hq
  clear hp hq
  obtain ⟨ap, cp, e1⟩ := owns_form Hp.out
  obtain ⟨aq, cq, e2⟩ := owns_form Hq.out
  subst e1
  subst e2
  go_enter Tryz.func22, Tryz.ntmps22
  go_wp2_with fail
  go_loopw [5] (fun i wr => ∃ k : Nat, k ≤ p.length ∧ i = .int .i64 k ∧ ∃ n, wr = w.drewN n) (fun i _ => p.length - (intOf i).toNat)
  case atStart => exact ⟨0, Nat.zero_le _, rfl, 0, rfl⟩
  case round =>
    obtain ⟨k, hk, rfl, n, rfl⟩ := hrel
    by_cases hkq : k < p.length
    · obtain ⟨gp, e1, hc1⟩ := row_cell Hp.out k hkq
      obtain ⟨gq, e2, hc2⟩ := row_cell Hq.out k hkq
      subst e1
      subst e2
      have t1 : decide (k < p.length) = true := by simpa using hkq
      have ts : (p[k].toList == p[k].toList) = true := by rw [toList_beq]; simp
      go_wp2_with fail
      go_quiet (fail)
      go_wp2_with fail
      go_roundw
      case rel => exact ⟨k + 1, by omega, by go_num, _, rfl⟩
      case measure => simp [intOf]; omega
    · have t1 : decide (k < p.length) = false := by simpa using hkq
      go_wp2_with fail
      go_ret
      exact ⟨rfl, _, rfl⟩
end Go.Proofs.YtdebjhdafnpfkaaGreatDoor

namespace Go.Proofs.YtdebjhdafnpfkaaGreatDoor
open Go.ChangeShapes Go.WideShapes Go.ChangeAt Go.RowKit
set_option linter.unusedVariables false
set_option linter.unusedSimpArgs false
theorem parse_ok (s : ByteArray) (its : List It) (n : Nat) (w : World) (m : Int) (hr : rread s = (s0 n, its)) (hs63 : s.size ≤ 4611686018427387904) (hm : w.cell? ⟨1, 0, none⟩ = some (.int .i64 m))
    (hg : w.cell? ⟨0, 0, none⟩ = some (.iface 120 (.agg #[.pointer (some ⟨7, 28, none⟩)]))) :
    Calls Tryz.prog 11 #[.string s] w fun e w' => ∃ d q, e = .returned (.tuple #[ptr d, .nilIface]) ∧ w.heap.size ≤ d ∧ d < w'.heap.size ∧ w'.cell? ⟨d, 0, none⟩ = some (ptr q) ∧ SheetOk w w' q its ∧ Below w.heap.size w w' := by
  refine (parse_any s w m hs63 hm hg).mono fun e w' h => ?_
  rcases h with ⟨_, d, q, h1, h2, h3, h4, h5, h6⟩ | ⟨h0, _⟩
  · rw [hr] at h5
    exact ⟨d, q, h1, h2, h3, h4, h5, h6⟩
  · rw [hr] at h0
    exact absurd rfl h0
theorem TabW.below {T : Nat → Nat} {w w' : World} (h : TabW T w) (hG : 4 < w.heap.size) (hb : Below w.heap.size w w') : TabW T w' := fun i hi => (hb.cell (p := ⟨4, i, none⟩) hG).trans (h i hi)
/-- What of the world the program's answers hang on. -/
structure WOk (T : Nat → Nat) (m : Int) (w : World) : Prop where
  m : w.cell? ⟨1, 0, none⟩ = some (.int .i64 m)
  g : w.cell? ⟨0, 0, none⟩ = some (.iface 120 (.agg #[.pointer (some ⟨7, 28, none⟩)]))
  t : TabW T w
theorem WOk.lt {T : Nat → Nat} {m : Int} {w : World} (h : WOk T m w) : 4 < w.heap.size := lt_of_cell (h.t 0 (by decide))
theorem WOk.below {T : Nat → Nat} {m : Int} {w w' : World} (h : WOk T m w) (hb : Below w.heap.size w w') : WOk T m w' :=
  ⟨(hb.cell (p := ⟨1, 0, none⟩) (lt_of_cell h.m)).trans h.m, (hb.cell (p := ⟨0, 0, none⟩) (lt_of_cell h.g)).trans h.g, h.t.below h.lt hb⟩
theorem SheetOk.below {w0 w w' : World} {q : Nat} {items : List It} (h : SheetOk w0 w q items) (hb : Below w.heap.size w w') : SheetOk w0 w' q items := h.frame (Nat.le_refl _) hb.size (fun k _ k2 => hb.block k k2)
set_option maxRecDepth 100000 in
set_option maxHeartbeats 2000000 in
/-- Spaced is true. -/
theorem spaced_law (raw : List Int) (rv : Value) (wi : Int) (T : Nat → Nat) (m : Int) (w : World) (hw : WOk T m w) (hs : SubRow w rv raw.length (raw.map (Value.int .i64 ·))) (hr : ∀ x ∈ raw, -9223372036854775808 ≤ x ∧ x ≤ 9223372036854775807) (hlen : raw.length ≤ 9223372036854775807) (h1 : -9223372036854775808 ≤ wi) (h2 : wi ≤ 9223372036854775807) :
    Calls Tryz.prog 8 #[rv, .int .i64 wi] w fun e w' => e = .returned (.bool true) ∧ Below w.heap.size w w' := by
  have HW := hid hw
  have HS := hid hs
  have HR := hid hr
  clear hw hs hr
  obtain ⟨K, hK⟩ : ∃ K, K = min raw.length 20 := ⟨_, rfl⟩
  have hK20 : K ≤ 20 := by omega
  have HK := hid hK
  clear hK
  have HZ := hid (mk_size raw K)
  have HN := hid (mkN_len raw K)
  have hle := mk_le raw K
  go_enter Tryz.func8, Tryz.ntmps8
  go_wp2_with fail
  refine (known_true w m HW.out.m HW.out.g).mono ?_
  rintro e w1 ⟨rfl, hB1⟩
  have HB1 := hid hB1
  have HW1 := hid (HW.out.below hB1)
  have HS1 := hid (HS.out.below hB1)
  have hz1 := hB1.size
  clear hB1 HW HS
  go_wp2_with fail
  refine (made_any one_any raw rv w1 HS1.out HR.out hlen K HK.out).mono ?_
  rintro e w2 ⟨pav, tsv, rfl, hown, hB2⟩
  have HO2 := hid hown
  have HB2 := hid (HB1.out.trans (hB2.mono hz1))
  have HW2 := hid (HW1.out.below hB2)
  have hz2 := hB2.size
  clear hB2 hown HB1 HW1 HS1
  by_cases h4 : 4000 < (mkO raw K).size
  · have t4 : decide ((4000 : Int) < ((mkO raw K).size : Int)) = true := by simp; omega
    go_wp2_with fail
    go_ret
    exact ⟨rfl, HB2.out⟩
  · have t4 : decide ((4000 : Int) < ((mkO raw K).size : Int)) = false := by simp; omega
    have RP := hid (read_plain raw K hK20 (by omega))
    have RO := hid (read_odd raw K hK20 (by omega))
    go_wp2_with fail
    refine (parse_ok _ _ _ w2 m RP.out (by omega) HW2.out.m HW2.out.g).mono ?_
    rintro e w3 ⟨d, q, rfl, d1, d2, d3, hsh, hB3⟩
    have hz3 := hB3.size
    have HB3 := hid (HB2.out.trans (hB3.mono (by omega)))
    have HW3 := hid (HW2.out.below hB3)
    have HO3 := hid (owns_frame HO2.out (fun k k1 k2 => hB3.block k k2))
    have HP3 := hid hsh
    clear hB3 hsh HB2 HW2 HO2
    go_wp2_with fail
    refine (parse_ok _ _ _ w3 m RO.out (by omega) HW3.out.m HW3.out.g).mono ?_
    rintro e w4 ⟨d', q', rfl, d1', d2', d3', hsh, hB4⟩
    have hz4 := hB4.size
    have HB4 := hid (HB3.out.trans (hB4.mono (by omega)))
    have HW4 := hid (HW3.out.below hB4)
    have HO4 := hid (owns_frame HO3.out (fun k k1 k2 => hB4.block k k2))
    have HP4 := hid (HP3.out.below hB4)
    have HQ4 := hid hsh
    have d4 := (hB4.cell (p := ⟨d, 0, none⟩) d2).trans d3
    clear hB4 hsh HB3 HW3 HO3 HP3 RP RO
    go_wp2_with fail
    refine (pick_any wi 181 w4 h1 h2 (by decide) (by decide)).mono ?_
    rintro e w5 ⟨rfl, hw5⟩
    rw [hw5]
    clear hw5
    have hpk := pk_lt wi 181 (by decide)
    have eW : (20 : Int) + ((pk wi 181 : Nat) : Int) = ((20 + pk wi 181 : Nat) : Int) := by omega
    generalize hWd : 20 + pk wi 181 = wd at *
    obtain ⟨X, hX⟩ : ∃ X, X = textOf (layOf (flatV (fnT T)) wd (itP raw K)) := ⟨_, rfl⟩
    have HX := hid hX
    have HY : Hid (X = textOf (layOf (flatV (fnT T)) wd (itO raw K))) := by unfold Hid; rw [hX, lay_same _ _ _ _ hK20]
    clear hX
    go_wp2_with fail
    refine (format_any T wd (by omega) (by omega) _ d q w2 w4 d4 HP4.out HW4.out.t HW4.out.lt (lay_itP raw K)).mono ?_
    rintro e w5 ⟨rfl, hB5, _⟩
    rw [← HX.out]
    have hz5 := hB5.size
    have HB5 := hid (HB4.out.trans (hB5.mono (by omega)))
    have HW5 := hid (HW4.out.below hB5)
    have HO5 := hid (owns_frame HO4.out (fun k k1 k2 => hB5.block k k2))
    have HP5 := hid (HP4.out.below hB5)
    have HQ5 := hid (HQ4.out.below hB5)
    have d5 := (hB5.cell (p := ⟨d, 0, none⟩) (by simp only; omega)).trans d4
    have d5' := (hB5.cell (p := ⟨d', 0, none⟩) d2').trans d3'
    clear hB5 HB4 HW4 HO4 HP4 HQ4 HX
    go_wp2_with fail
    refine (format_any T wd (by omega) (by omega) _ d' q' w3 w5 d5' HQ5.out HW5.out.t HW5.out.lt (lay_itO raw K)).mono ?_
    rintro e w6 ⟨rfl, hB6, _⟩
    rw [← HY.out]
    have hz6 := hB6.size
    have HB6 := hid (HB5.out.trans (hB6.mono (by omega)))
    have HO6 := hid (owns_frame HO5.out (fun k k1 k2 => hB6.block k k2))
    have HP6 := hid (HP5.out.below hB6)
    have HQ6 := hid (HQ5.out.below hB6)
    have d6 := (hB6.cell (p := ⟨d, 0, none⟩) (by simp only; omega)).trans d5
    have d6' := (hB6.cell (p := ⟨d', 0, none⟩) (by simp only; omega)).trans d5'
    clear hB6 HB5 HW5 HO5 HP5 HQ5 HY
    have PM := hid (paths_made raw K)
    go_wp2_with fail
    refine (paths_any d q _ w2 w6 d6 HP6.out (ItOk_full HP6.out.1)).mono ?_
    rintro e w7 ⟨lv, rfl, hown7, hB7⟩
    rw [PM.out.1] at hown7
    have hz7 := hB7.size
    have HB7 := hid (HB6.out.trans (hB7.mono (by omega)))
    have HO7 := hid (owns_frame HO6.out (fun k k1 k2 => hB7.block k k2))
    have HQ7 := hid (HQ6.out.below hB7)
    have HL7 := hid hown7
    have d7' := (hB7.cell (p := ⟨d', 0, none⟩) (by simp only; omega)).trans d6'
    clear hB7 hown7 HB6 HO6 HP6 HQ6
    go_wp2_with fail
    refine (ksame_true _ _ lv pav _ w7 HL7.out HO7.out (by rw [HN.out]; omega)).mono ?_
    rintro e w8 ⟨rfl, n8, hw8⟩
    rw [hw8]
    clear hw8
    have HB8 := hid (qbelow_drewN HB7.out n8)
    have HO8 : Hid ((w7.drewN n8).ownsRow w1.heap.size 9 1 pav (mkN raw K).length ((mkN raw K).map .string)) := HO7.out
    have HQ8 := hid (HQ7.out.below (qbelow_drewN (Below.refl w7.heap.size w7) n8))
    have d8' : (w7.drewN n8).cell? ⟨d', 0, none⟩ = some (ptr q') := d7'
    have hz8 : (w7.drewN n8).heap.size = w7.heap.size := rfl
    clear HB7 HO7 HQ7 HL7 d7'
    generalize w7.drewN n8 = w8 at *
    go_wp2_with fail
    refine (paths_any d' q' _ w3 w8 d8' HQ8.out (ItOk_full HQ8.out.1)).mono ?_
    rintro e w9 ⟨lv2, rfl, hown9, hB9⟩
    rw [PM.out.2] at hown9
    have hz9 := hB9.size
    have HB9 := hid (HB8.out.trans (hB9.mono (by omega)))
    have HO9 := hid (owns_frame HO8.out (fun k k1 k2 => hB9.block k k2))
    have HL9 := hid hown9
    clear hB9 hown9 HB8 HO8 HQ8
    go_wp2_with fail
    refine (ksame_true _ _ lv2 pav _ w9 HL9.out HO9.out (by rw [HN.out]; omega)).mono ?_
    rintro e w10 ⟨rfl, n10, hw10⟩
    rw [hw10]
    clear hw10
    have HB10 := hid (qbelow_drewN HB9.out n10)
    have ts : (X.toList == X.toList) = true := by rw [toList_beq]; simp
    clear HB9 HO9 HL9
    generalize w9.drewN n10 = w10 at *
    go_wp2_with fail
    go_ret
    exact ⟨rfl, HB10.out⟩
end Go.Proofs.YtdebjhdafnpfkaaGreatDoor
