import Derived.Test.YtdebjhdafnpfkabGreatDoorK27
import Derived.Deep.RegionWith
import Derived.OwnWalk
import Derived.Below
import Derived.Laws.AppendOwnNone
namespace Go.Proofs.YtdebjhdafnpfkabGreatDoor
open Go.ChangeShapes Go.WideShapes Go.ChangeAt Go.RowKit
set_option linter.unusedVariables false
set_option linter.unusedSimpArgs false
theorem tdiv_rng (c : Int) (k : Int) (hk : 0 < k) (h1 : -9223372036854775808 ≤ c) (h2 : c ≤ 9223372036854775807) : -9223372036854775808 ≤ c.tdiv k ∧ c.tdiv k ≤ 9223372036854775807 := by
  rcases Int.le_total 0 c with h | h
  · rw [Int.tdiv_eq_ediv_of_nonneg h]
    have h3 := Int.ediv_nonneg h (Int.le_of_lt hk)
    have h4 := Int.ediv_le_self k h
    omega
  · have e : c.tdiv k = -((-c).tdiv k) := by rw [Int.neg_tdiv]; omega
    rw [e, Int.tdiv_eq_ediv_of_nonneg (by omega)]
    have h3 := Int.ediv_nonneg (a := -c) (by omega) (Int.le_of_lt hk)
    have h4 := Int.ediv_le_self (a := -c) k (by omega)
    omega
def numI (c : Int) : Int := if numM c = true then - (numN c : Int) else numN c
set_option maxHeartbeats 1000000 in
theorem knumber_any (c : Int) (w : World) (h1 : -9223372036854775808 ≤ c) (h2 : c ≤ 9223372036854775807) :
    Calls Tryz.prog 57 #[.int .i64 c] w fun e w' => e = .returned (.tuple #[.int .i64 (numI c), .string (numP c), .string (numO c)]) ∧ Below w.heap.size w w' := by
  have HI : Hid (numI c = if numM c = true then - (numN c : Int) else numN c) := rfl
  have hr := tdiv_rng c 7 (by decide) h1 h2
  have hn := numN_lt c
  have hn3 := pk_lt (c.tdiv 7) 3 (by decide)
  have HP1 : Hid (∀ w, Calls Tryz.prog 6 #[.int .i64 c, .int .i64 2000000] w fun e w' => e = .returned (.int .i64 (numN c)) ∧ w' = w) := fun w => pick_any c 2000000 w h1 h2 (by decide) (by decide)
  have HP2 : Hid (∀ w, Calls Tryz.prog 6 #[.int .i64 (c.tdiv 7), .int .i64 3] w fun e w' => e = .returned (.int .i64 (pk (c.tdiv 7) 3)) ∧ w' = w) := fun w => pick_any (c.tdiv 7) 3 w hr.1 hr.2 (by decide) (by decide)
  have HM : Hid (numM c = decide (pk (c.tdiv 7) 3 = 0 ∧ 0 < numN c)) := rfl
  have HNP : Hid (numP c = if numM c = true then ⟨#[45]⟩ ++ dgtB (numN c) else dgtB (numN c)) := rfl
  have HNO : Hid (numO c = ⟨#[if numM c = true then 45 else 43]⟩ ++ odB (numN c)) := rfl
  have z1 := dig_size (numN c)
  generalize numN c = n at *
  generalize pk (c.tdiv 7) 3 = p at *
  have HD : Hid (∀ w : World, Calls Tryz.prog 7 #[.int .i64 n] w fun e w' => e = .returned (.string (dgtB n)) ∧ Below w.heap.size w w') := digits_any n (by omega) (by omega)
  have HO : Hid (odB n = if 2 < (dgtB n).size then (dgtB n).extract 0 1 ++ ⟨#[95]⟩ ++ (dgtB n).extract 1 (dgtB n).size else dgtB n) := rfl
  generalize dgtB n = s at *
  go_enter Tryz.func57, Tryz.ntmps57
  go_wp2_with fail
  refine (HP1.out _).mono ?_
  rintro e w1 ⟨rfl, hw1⟩
  rw [hw1]
  clear hw1
  go_wp2_with fail
  refine (HD.out _).mono ?_
  rintro e w1 ⟨rfl, hB1⟩
  have HB1 : Hid _ := hB1
  clear hB1
  have HF : Hid (∀ od : ByteArray, od = odB n → ∀ w2, Below w.heap.size w w2 →
      (numM c = true → Ending.returned (.tuple #[.int .i64 (-(n : Int)), .string (⟨#[45]⟩ ++ s), .string (⟨#[45]⟩ ++ od)]) = .returned (.tuple #[.int .i64 (numI c), .string (numP c), .string (numO c)])) ∧
      (numM c = false → Ending.returned (.tuple #[.int .i64 (n : Int), .string s, .string (⟨#[43]⟩ ++ od)]) = .returned (.tuple #[.int .i64 (numI c), .string (numP c), .string (numO c)]))) := fun od ho w2 hB => by
    refine ⟨fun h => ?_, fun h => ?_⟩
    · rw [HI.out, HNP.out, HNO.out, h, ho]; rfl
    · rw [HI.out, HNP.out, HNO.out, h, ho]; rfl
  clear HNP HNO HI
  by_cases hs : 2 < s.size
  case' pos =>
    have t2 : decide (2 < (s.size : Int)) = true := by simp; omega
    go_wp2_with fail
    go_quiet (fail)
    go_wp2_with fail
    have e1 : (⟨#[43]⟩ : ByteArray) ++ s.extract 0 1 ++ ⟨#[95]⟩ ++ s.extract 1 s.size = ⟨#[43]⟩ ++ odB n := by
      rw [HO.out, if_pos hs]
      simp only [ByteArray.append_assoc]
    have z2 : (odB n).size ≤ 30 := by
      rw [HO.out, if_pos hs]
      simp only [ByteArray.size_append, ByteArray.size_extract]
      show _ + 1 + _ ≤ 30
      omega
    rw [e1]
    clear e1
    clear HO hs
    have HB2 : Hid (Below w.heap.size w (w1.drewN nq)) := HB1.out.trans ⟨rfl, rfl, rfl, Nat.le_refl _, fun _ _ => rfl⟩
    clear HB1
    generalize w1.drewN nq = w2 at *
  case' neg =>
    have t2 : decide (2 < (s.size : Int)) = false := by simp; omega
    go_wp2_with fail
    have e1 : odB n = s := by rw [HO.out, if_neg hs]
    have z2 : (odB n).size ≤ 30 := by rw [e1]; omega
    rw [show (⟨#[43]⟩ : ByteArray) ++ s = ⟨#[43]⟩ ++ odB n by rw [e1]]
    clear e1 HO hs
    have HB2 : Hid (Below w.heap.size w w1) := HB1
    clear HB1
    obtain ⟨w2, hw2⟩ : ∃ w2, w2 = w1 := ⟨w1, rfl⟩
    rw [← hw2] at HB2 ⊢
    clear hw2
  all_goals (
    obtain ⟨od, hod⟩ : ∃ od, od = odB n := ⟨_, rfl⟩
    have HF2 := HF.out od hod w2 HB2.out
    rw [← hod] at z2 ⊢
    have hcut : (⟨#[43]⟩ ++ od : ByteArray).extract 1 (⟨#[43]⟩ ++ od : ByteArray).size = od := by
      apply bl_inj
      have hz : (⟨#[43]⟩ ++ od : ByteArray).size = od.size + 1 := by rw [ByteArray.size_append]; show 1 + _ = _; omega
      rw [bl_ext _ _ _ (Nat.le_refl _) (by omega), bl_app, hz, show od.size + 1 - 1 = (bl od).length by rw [bl_len]; omega]
      show List.take _ (bl od) = _
      rw [List.take_length]
    have hz : (⟨#[43]⟩ ++ od : ByteArray).size = od.size + 1 := by rw [ByteArray.size_append]; show 1 + _ = _; omega
    clear HF hod
    refine (HP2.out _).mono ?_
    rintro e w3 ⟨rfl, hw3⟩
    rw [hw3]
    clear hw3
    generalize (⟨#[43]⟩ ++ od : ByteArray) = od1 at *
    rcases (by omega : (p = 0 ∧ 0 < n) ∨ (p = 0 ∧ ¬ 0 < n) ∨ p ≠ 0) with ⟨hp, hn0⟩ | ⟨hp, hn0⟩ | hp
    · have t3 : ((p : Int) == 0) = true := by simp; omega
      have t4 : decide (0 < n) = true := by simp; omega
      have Fin := HF2.1 (by rw [HM.out]; simp [hp, hn0])
      clear HF2 HM hp hn0
      go_wp2_with fail
      go_ret3
      rw [show od1.extract 1 (od.size + 1) = od by rw [← hz]; exact hcut]
      exact ⟨Fin, HB2.out⟩
    · have t3 : ((p : Int) == 0) = true := by simp; omega
      have t4 : decide (0 < n) = false := by simp; omega
      have Fin := HF2.2 (by rw [HM.out]; simp [hn0])
      clear HF2 HM hp hn0
      go_wp2_with fail
      go_ret3
      exact ⟨Fin, HB2.out⟩
    · have t3 : ((p : Int) == 0) = false := by simp; omega
      have Fin := HF2.2 (by rw [HM.out]; simp [hp])
      clear HF2 HM hp
      go_wp2_with fail
      go_ret3
      exact ⟨Fin, HB2.out⟩)
end Go.Proofs.YtdebjhdafnpfkabGreatDoor

namespace Go.Proofs.YtdebjhdafnpfkabGreatDoor
open Go.ChangeShapes Go.WideShapes Go.ChangeAt Go.RowKit
set_option linter.unusedVariables false
set_option linter.unusedSimpArgs false
theorem wes_small (k : Nat) : (wes k).size ≤ 2 := by
  unfold wes
  have h : (wx k).size ≤ 1 := by unfold wx; rw [ByteArray.size_extract]; omega
  split
  · rw [ByteArray.size_append]; show 1 + _ ≤ 2; omega
  · split
    · exact Nat.le_refl _
    · split
      · exact Nat.le_refl _
      · omega
theorem wx_small (k : Nat) : (wx k).size ≤ 1 := by unfold wx; rw [ByteArray.size_extract]; omega
set_option maxRecDepth 100000 in
set_option maxHeartbeats 4000000 in
theorem kword_any (c : Int) (w : World) (h1 : -9223372036854775808 ≤ c) (h2 : c ≤ 9223372036854775807) :
    Calls Tryz.prog 58 #[.int .i64 c] w fun e w' => e = .returned (.tuple #[.string (wordS c), .string (wordW c)]) ∧ ∃ n, w' = w.drewN n := by
  have HP1 : Hid (∀ w, Calls Tryz.prog 6 #[.int .i64 c, .int .i64 1099511627776] w fun e w' => e = .returned (.int .i64 (pk c 1099511627776)) ∧ w' = w) := fun w => pick_any c 1099511627776 w h1 h2 (by decide) (by decide)
  have hlt := pk_lt c 1099511627776 (by decide)
  have HS : Hid (wordS c = (wLoop 12 (pk c 1099511627776) ⟨#[]⟩ ⟨#[34]⟩).1 ∧ wordW c = (wLoop 12 (pk c 1099511627776) ⟨#[]⟩ ⟨#[34]⟩).2 ++ ⟨#[34]⟩) := ⟨rfl, rfl⟩
  generalize pk c 1099511627776 = c0 at *
  go_enter Tryz.func58, Tryz.ntmps58
  go_wp2_with fail
  refine (HP1.out _).mono ?_
  rintro e w1 ⟨rfl, hw1⟩
  rw [hw1]
  clear hw1 w1
  go_wp2_with fail
  go_loopw [0, 4, 5] (fun cv sv wv wr => ∃ (f k : Nat) (s t : ByteArray), cv = .int .i64 k ∧ Hid (k < 12 ^ f) ∧ k ≤ 1099511627776 ∧ f ≤ 12 ∧ sv = .string s ∧ wv = .string t ∧ s.size + f ≤ 20 ∧ t.size + 2 * f ≤ 40 ∧ Hid (wLoop f k s t = wLoop 12 c0 ⟨#[]⟩ ⟨#[34]⟩) ∧ ∃ m, wr = w.drewN m) (fun cv _ _ _ => (intOf cv).toNat)
  case atStart => exact ⟨12, c0, ⟨#[]⟩, ⟨#[34]⟩, rfl, by unfold Hid; omega, by omega, by omega, rfl, rfl, by decide, by decide, rfl, 0, rfl⟩
  case round =>
    obtain ⟨f, k, s, t, rfl, hk, hk2, hf, rfl, rfl, hs, ht, hW, m, rfl⟩ := hrel
    by_cases h0 : k = 0
    · have t0 : decide (0 < k) = false := by simp; omega
      have Fin : Hid (wordS c = s ∧ wordW c = t ++ ⟨#[34]⟩) := by
        have e := hW.out
        subst h0
        have e2 : wLoop f 0 s t = (s, t) := by cases f <;> rfl
        rw [e2] at e
        unfold Hid
        rw [HS.out.1, HS.out.2, ← e]
        exact ⟨rfl, rfl⟩
      have t1 : decide (0 < (k : Int)) = false := by simp; omega
      clear hW hk h0
      go_wp2_with fail
      go_ret2
      exact ⟨by rw [Fin.out.1, Fin.out.2]; rfl, _, rfl⟩
    · have t0 : decide (0 < k) = true := by simp; omega
      have t1 : decide (0 < (k : Int)) = true := by simp; omega
      obtain ⟨f, rfl⟩ : ∃ g, f = g + 1 := ⟨f - 1, by
        have := hk.out
        cases f with
        | zero => simp at this; omega
        | succ f => rfl⟩
      have hnx : Hid (wLoop f (k / 12) (s ++ wx (k % 12)) (t ++ wes (k % 12)) = wLoop 12 c0 ⟨#[]⟩ ⟨#[34]⟩) := by
        have e := hW.out
        unfold Hid
        conv at e => lhs; unfold wLoop
        rw [if_neg h0] at e
        exact e
      have hk' : Hid (k / 12 < 12 ^ f) := by
        have := hk.out
        unfold Hid
        rw [Nat.pow_succ] at this
        exact Nat.div_lt_of_lt_mul (by omega)
      have z1 := wx_small (k % 12)
      have z2 := wes_small (k % 12)
      have hdv : Hid ((k : Int) / 12 = ((k / 12 : Nat) : Int)) := by unfold Hid; omega
      have hdl : Hid (k / 12 < k ∧ k / 12 ≤ 1099511627776) := by unfold Hid; omega
      have hmi0 : (k : Int) % 12 = ((k % 12 : Nat) : Int) := by omega
      clear hW hk h0
      rcases (by omega : k % 12 = 0 ∨ k % 12 = 1 ∨ k % 12 = 2 ∨ k % 12 = 3 ∨ k % 12 = 4 ∨ k % 12 = 5 ∨ k % 12 = 6 ∨ k % 12 = 7 ∨ k % 12 = 8 ∨ k % 12 = 9 ∨ k % 12 = 10 ∨ k % 12 = 11) with hm | hm | hm | hm | hm | hm | hm | hm | hm | hm | hm | hm
      all_goals (rw [hm] at hmi0 hnx z1 z2; simp only [Int.cast_ofNat_Int] at hmi0; clear hm)
      all_goals (
        go_wp2_with fail
        refine ⟨⟨f, k / 12, _, _, by rw [hdv.out], hk', hdl.out.2, by omega, ?_, ?_, ?_, ?_, hnx, _, rfl⟩, ?_⟩
        · rfl
        · first | rfl | exact congrArg Value.string (ByteArray.append_assoc)
        · rw [ByteArray.size_append]; omega
        · rw [ByteArray.size_append]; omega
        · have := hdl.out
          simp [intOf]; omega)
end Go.Proofs.YtdebjhdafnpfkabGreatDoor

namespace Go.Proofs.YtdebjhdafnpfkabGreatDoor
open Go.ChangeShapes Go.WideShapes Go.ChangeAt Go.RowKit
set_option linter.unusedVariables false
set_option linter.unusedSimpArgs false
theorem kbelow_drewN {B : Nat} {w w' : World} (h : Below B w w') (n : Nat) : Below B w (w'.drewN n) := by
  induction n with
  | zero => exact h
  | succ n ih => exact ih.drew
/-- The rows of a value that is no list, as they lie. -/
def ThgAt (w : World) (B k : Nat) (nv sv : Value) : Prop :=
  (k ≠ 2 ∧ sv = .slice none 0 0 ∧ ∃ g x, nv = .slice (some ⟨g, 0, none⟩) 1 1 ∧ B ≤ g ∧ w.cell? ⟨g, 0, none⟩ = some (.int .i64 x)) ∨
  (k = 2 ∧ nv = .slice none 0 0 ∧ ∃ g s, sv = .slice (some ⟨g, 0, none⟩) 1 1 ∧ B ≤ g ∧ w.cell? ⟨g, 0, none⟩ = some (.string s))
def kb (k : Nat) : Nat := if k = 0 then 110 else if k = 1 then 98 else 115
/-- A Thing's block. -/
structure TB (w : World) (q : Nat) (v0 v1 v2 v3 v4 : Value) : Prop where
  c0 : w.cell? ⟨q, 0, none⟩ = some v0
  c1 : w.cell? ⟨q, 1, none⟩ = some v1
  c2 : w.cell? ⟨q, 2, none⟩ = some v2
  c3 : w.cell? ⟨q, 3, none⟩ = some v3
  c4 : w.cell? ⟨q, 4, none⟩ = some v4
  F : ∀ o, w.frozen? ⟨q, o, none⟩ = false
  lt : q < w.heap.size
theorem TB.of_block {w w' : World} {q : Nat} {v0 v1 v2 v3 v4 : Value} (h : TB w q v0 v1 v2 v3 v4) (hb : w'.heap[q]? = w.heap[q]?) (hz : w.heap.size ≤ w'.heap.size) : TB w' q v0 v1 v2 v3 v4 :=
  ⟨(World.cell?_of_block (w := w) hb).trans h.c0, (World.cell?_of_block (w := w) hb).trans h.c1, (World.cell?_of_block (w := w) hb).trans h.c2, (World.cell?_of_block (w := w) hb).trans h.c3, (World.cell?_of_block (w := w) hb).trans h.c4,
   fun o => (World.frozen?_of_block (w := w) hb).trans (h.F o), Nat.lt_of_lt_of_le h.lt hz⟩
theorem TB.below {B : Nat} {w w' : World} {q : Nat} {v0 v1 v2 v3 v4 : Value} (h : TB w q v0 v1 v2 v3 v4) (hk : Below B w w') (hb : q < B) : TB w' q v0 v1 v2 v3 v4 := h.of_block (hk.block q hb) hk.size
theorem TB.alloc {w : World} {q : Nat} {v0 v1 v2 v3 v4 : Value} (h : TB w q v0 v1 v2 v3 v4) (o : Obj) : TB (w.alloc o) q v0 v1 v2 v3 v4 := h.of_block (Below.heap_alloc _ _ _ h.lt) (by simp)
theorem TB.new (w : World) (v0 v1 v2 v3 v4 : Value) : TB (w.alloc (.cells #[v0, v1, v2, v3, v4] 57)) w.heap.size v0 v1 v2 v3 v4 :=
  ⟨by rw [World.cell?_alloc_at _ _ _ _ rfl]; rfl, by rw [World.cell?_alloc_at _ _ _ _ rfl]; rfl, by rw [World.cell?_alloc_at _ _ _ _ rfl]; rfl, by rw [World.cell?_alloc_at _ _ _ _ rfl]; rfl, by rw [World.cell?_alloc_at _ _ _ _ rfl]; rfl, fun o => by simp, by simp⟩
theorem TB.other {w : World} {q : Nat} {v0 v1 v2 v3 v4 : Value} (h : TB w q v0 v1 v2 v3 v4) (p o : Nat) (v : Value) (hp : p ≠ q) : TB (w.setCell ⟨p, o, none⟩ v) q v0 v1 v2 v3 v4 :=
  h.of_block (Below.heap_setCell _ _ _ _ (fun e => hp (by simpa using e.symm))) (by simp [World.setCell])
theorem TB.s0 {w : World} {q : Nat} {v0 v1 v2 v3 v4 : Value} (h : TB w q v0 v1 v2 v3 v4) (v : Value) : TB (w.setCell ⟨q, 0, none⟩ v) q v v1 v2 v3 v4 :=
  ⟨cell_set_same _ _ _ _ _ h.c0, (cell_set_off _ _ _ _ _ (by omega)).trans h.c1, (cell_set_off _ _ _ _ _ (by omega)).trans h.c2, (cell_set_off _ _ _ _ _ (by omega)).trans h.c3, (cell_set_off _ _ _ _ _ (by omega)).trans h.c4, fun o => (World.frozen?_setCell _ _ _ _).trans (h.F o), by simpa [World.setCell] using h.lt⟩
theorem TB.s1 {w : World} {q : Nat} {v0 v1 v2 v3 v4 : Value} (h : TB w q v0 v1 v2 v3 v4) (v : Value) : TB (w.setCell ⟨q, 1, none⟩ v) q v0 v v2 v3 v4 :=
  ⟨(cell_set_off _ _ _ _ _ (by omega)).trans h.c0, cell_set_same _ _ _ _ _ h.c1, (cell_set_off _ _ _ _ _ (by omega)).trans h.c2, (cell_set_off _ _ _ _ _ (by omega)).trans h.c3, (cell_set_off _ _ _ _ _ (by omega)).trans h.c4, fun o => (World.frozen?_setCell _ _ _ _).trans (h.F o), by simpa [World.setCell] using h.lt⟩
theorem TB.s2 {w : World} {q : Nat} {v0 v1 v2 v3 v4 : Value} (h : TB w q v0 v1 v2 v3 v4) (v : Value) : TB (w.setCell ⟨q, 2, none⟩ v) q v0 v1 v v3 v4 :=
  ⟨(cell_set_off _ _ _ _ _ (by omega)).trans h.c0, (cell_set_off _ _ _ _ _ (by omega)).trans h.c1, cell_set_same _ _ _ _ _ h.c2, (cell_set_off _ _ _ _ _ (by omega)).trans h.c3, (cell_set_off _ _ _ _ _ (by omega)).trans h.c4, fun o => (World.frozen?_setCell _ _ _ _).trans (h.F o), by simpa [World.setCell] using h.lt⟩
theorem TB.s3 {w : World} {q : Nat} {v0 v1 v2 v3 v4 : Value} (h : TB w q v0 v1 v2 v3 v4) (v : Value) : TB (w.setCell ⟨q, 3, none⟩ v) q v0 v1 v2 v v4 :=
  ⟨(cell_set_off _ _ _ _ _ (by omega)).trans h.c0, (cell_set_off _ _ _ _ _ (by omega)).trans h.c1, (cell_set_off _ _ _ _ _ (by omega)).trans h.c2, cell_set_same _ _ _ _ _ h.c3, (cell_set_off _ _ _ _ _ (by omega)).trans h.c4, fun o => (World.frozen?_setCell _ _ _ _).trans (h.F o), by simpa [World.setCell] using h.lt⟩
theorem TB.s4 {w : World} {q : Nat} {v0 v1 v2 v3 v4 : Value} (h : TB w q v0 v1 v2 v3 v4) (v : Value) : TB (w.setCell ⟨q, 4, none⟩ v) q v0 v1 v2 v3 v :=
  ⟨(cell_set_off _ _ _ _ _ (by omega)).trans h.c0, (cell_set_off _ _ _ _ _ (by omega)).trans h.c1, (cell_set_off _ _ _ _ _ (by omega)).trans h.c2, (cell_set_off _ _ _ _ _ (by omega)).trans h.c3, cell_set_same _ _ _ _ _ h.c4, fun o => (World.frozen?_setCell _ _ _ _).trans (h.F o), by simpa [World.setCell] using h.lt⟩
/-- A Thing is stored whole. -/
abbrev putT (w : World) (q : Nat) (v0 v1 v2 v3 v4 : Value) : World := ((((w.setCell ⟨q, 0, none⟩ v0).setCell ⟨q, 1, none⟩ v1).setCell ⟨q, 2, none⟩ v2).setCell ⟨q, 3, none⟩ v3).setCell ⟨q, 4, none⟩ v4
theorem TB.put {w : World} {q : Nat} {v0 v1 v2 v3 v4 : Value} (h : TB w q v0 v1 v2 v3 v4) (u0 u1 u2 u3 u4 : Value) : TB (putT w q u0 u1 u2 u3 u4) q u0 u1 u2 u3 u4 := ((((h.s0 u0).s1 u1).s2 u2).s3 u3).s4 u4
theorem putT_size (w : World) (q : Nat) (v0 v1 v2 v3 v4 : Value) : (putT w q v0 v1 v2 v3 v4).heap.size = w.heap.size := by simp [putT, World.setCell]
theorem below_putT {B : Nat} {u w : World} (h : Below B u w) (q : Nat) (hq : B ≤ q) (v0 v1 v2 v3 v4 : Value) : Below B u (putT w q v0 v1 v2 v3 v4) := ((((h.setCell hq v0).setCell hq v1).setCell hq v2).setCell hq v3).setCell hq v4
theorem one_fin {w w1 : World} {u0 u1 u2 u3 u4 : Value} (hB : Below w.heap.size w w1) (hT : TB w1 w.heap.size u0 u1 u2 u3 u4) (v0 v1 v2 v3 v4 x : Value) (T : TypeId) :
    TB ((putT w1 w.heap.size v0 v1 v2 v3 v4).alloc (.cells #[x] T)) w.heap.size v0 v1 v2 v3 v4 ∧ Below w.heap.size w ((putT w1 w.heap.size v0 v1 v2 v3 v4).alloc (.cells #[x] T)) ∧ ((putT w1 w.heap.size v0 v1 v2 v3 v4).alloc (.cells #[x] T)).cell? ⟨w1.heap.size, 0, none⟩ = some x := by
  refine ⟨(hT.put v0 v1 v2 v3 v4).alloc _, (below_putT hB _ (Nat.le_refl _) _ _ _ _ _).alloc (by rw [putT_size]; exact hB.size) _, ?_⟩
  rw [World.cell?_alloc_at _ _ _ _ (putT_size _ _ _ _ _ _ _).symm]
  rfl
end Go.Proofs.YtdebjhdafnpfkabGreatDoor
