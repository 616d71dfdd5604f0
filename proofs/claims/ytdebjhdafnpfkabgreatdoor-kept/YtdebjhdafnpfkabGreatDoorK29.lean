import Derived.Test.YtdebjhdafnpfkabGreatDoorK28
import Derived.Test.YtdebjhdafnpfkabGreatDoorK20
import Derived.Lib.Builder
namespace Go.Proofs.YtdebjhdafnpfkabGreatDoor
open Go.ChangeShapes Go.WideShapes Go.ChangeAt Go.RowKit
set_option linter.unusedVariables false
set_option linter.unusedSimpArgs false
def OneC : Prop := ∀ (k : Nat) (c : Int) (w : World), k < 3 → -9223372036854775808 ≤ c → c ≤ 9223372036854775807 →
    Calls Tryz.prog 36 #[.int .u8 (kb k), .int .i64 c] w fun e w' => ∃ nv sv, e = .returned (.agg #[.int .u8 (kb k), nv, sv, .string (oneP k c), .string (oneO k c)]) ∧ ThgAt w' w.heap.size k nv sv ∧ Below w.heap.size w w'
theorem hid {p : Prop} (h : p) : Hid p := h
theorem t81 (c : Int) (h1 : -9223372036854775808 ≤ c) (h2 : c ≤ 9223372036854775807) : -113868790578454023 ≤ c.tdiv 81 ∧ c.tdiv 81 ≤ 113868790578454023 := by
  rcases Int.le_total 0 c with h | h
  · rw [Int.tdiv_eq_ediv_of_nonneg h]
    omega
  · have e : c.tdiv 81 = -((-c).tdiv 81) := by rw [Int.neg_tdiv]; omega
    rw [e, Int.tdiv_eq_ediv_of_nonneg (by omega)]
    omega
theorem wLoop_w : ∀ (f c : Nat) (s w : ByteArray), (wLoop f c s w).2.size ≤ w.size + 2 * f
  | 0, c, s, w => Nat.le_refl _
  | f + 1, c, s, w => by
    unfold wLoop
    split
    · show w.size ≤ _; omega
    · have h := wLoop_w f (c / 12) (s ++ wx (c % 12)) (w ++ wes (c % 12))
      have h2 := wes_small (c % 12)
      rw [ByteArray.size_append] at h
      omega
theorem one_size (k : Nat) (c : Int) : (oneP k c).size ≤ 40 ∧ (oneO k c).size ≤ 40 := by
  have h1 := dig_size (numN c)
  have h2 : (odB (numN c)).size ≤ 30 := by
    unfold odB
    split
    · simp only [ByteArray.size_append, ByteArray.size_extract]
      show _ + 1 + _ ≤ 30
      omega
    · omega
  have h3 : (wordW c).size ≤ 40 := by
    unfold wordW
    have := wLoop_w 12 (pk c 1099511627776) ⟨#[]⟩ ⟨#[34]⟩
    rw [ByteArray.size_append]
    have e1 : (⟨#[34]⟩ : ByteArray).size = 1 := rfl
    omega
  have h4 : (if pk c 2 = 0 then falseS else trueS).size ≤ 40 := by split <;> decide
  unfold oneP oneO
  split
  · unfold numP numO
    refine ⟨?_, ?_⟩
    · split
      · rw [ByteArray.size_append]; show 1 + _ ≤ 40; omega
      · omega
    · rw [ByteArray.size_append]; show 1 + _ ≤ 40; omega
  · split
    · exact ⟨h4, h4⟩
    · exact ⟨h3, h3⟩
theorem lst_size (gp go : Nat → ByteArray) (hp : ∀ i, (gp i).size ≤ 40) (ho : ∀ i, (go i).size ≤ 40) : ∀ n, (lstP gp n).size ≤ 10 + 50 * n ∧ (lstO go n).size ≤ 10 + 50 * n
  | 0 => ⟨by show 1 ≤ 10; omega, by show 3 ≤ 10; omega⟩
  | n + 1 => by
    obtain ⟨h1, h2⟩ := lst_size gp go hp ho n
    have h3 := hp n
    have h4 := ho n
    refine ⟨?_, ?_⟩
    · unfold lstP
      rw [ByteArray.size_append]
      split
      · rw [ByteArray.size_append]
        have e1 : (⟨#[44, 32]⟩ : ByteArray).size = 2 := rfl
        omega
      · omega
    · unfold lstO
      rw [ByteArray.size_append, ByteArray.size_append]
      have e1 : (⟨#[32, 44, 10, 9]⟩ : ByteArray).size = 4 := rfl
      omega
theorem info_int : (Tryz.prog.info? 3).map (fun i => (i.zero, i.size, i.bytes)) = some (some (.int .i64 0), 1, 8) := by kernel_rfl
theorem owns_below {w w' : World} {base : Nat} {e : TypeId} {v : Value} {n : Nat} {xs : List Value} (h : w.ownsRow base e 1 v n xs) (hb : Below w.heap.size w w') : w'.ownsRow base e 1 v n xs := owns_frame h (fun k _ k2 => hb.block k k2)
theorem rows_apart {w : World} {B B' : Nat} {e e' : TypeId} {v v' : Value} {n n' : Nat} {xs xs' : List Value} (h : w.ownsRow B e 1 v n xs) (h' : w.ownsRow B' e' 1 v' n' xs') (he : e' ≠ e) : v.ownBlock = none ∨ v.ownBlock ≠ v'.ownBlock := by
  rcases h'.2 with ⟨rfl, _⟩ | ⟨g, cap, cur, rfl, _, hg, _⟩
  · by_cases hv : v.ownBlock = none
    · exact .inl hv
    · exact .inr (by simpa [Value.ownBlock] using hv)
  · exact .inr (by simpa [Value.ownBlock] using Lib.ownBlock_ne h hg he)
theorem TB.grown {w w' : World} {q : Nat} {v0 v1 v2 v3 v4 : Value} {row : Option Nat} (h : TB w q v0 v1 v2 v3 v4) (hg : w.grownBy w' row) (hr : row ≠ some q) : TB w' q v0 v1 v2 v3 v4 := h.of_block (hg.block q h.lt (fun e => hr e.symm)) hg.size
/-- A list's Thing on its way. -/
structure ThS (w wr : World) (q : Nat) (kd an av : Value) (ln ls : Nat) (ns ss : List Value) (p o : Value) : Prop where
  t : TB wr q kd an av p o
  r : TB wr w.heap.size (.int .u8 0) (.slice none 0 0) (.slice none 0 0) (.string ⟨#[]⟩) (.string ⟨#[]⟩)
  n : wr.ownsRow (q + 1) 3 1 an ln ns
  s : wr.ownsRow (q + 1) 9 1 av ls ss
  b : Below w.heap.size w wr
  z : q + 1 ≤ wr.heap.size
theorem owns_setq {w : World} {q : Nat} {e : TypeId} {v : Value} {n : Nat} {xs : List Value} (h : w.ownsRow (q + 1) e 1 v n xs) (o : Nat) (u : Value) : (w.setCell ⟨q, o, none⟩ u).ownsRow (q + 1) e 1 v n xs := owns_frame h (fun k' k1 _ => Below.heap_setCell _ _ _ _ (by simp only; omega))
theorem ThS.set3 {w wr : World} {q : Nat} {kd an av : Value} {ln ls : Nat} {ns ss : List Value} {p o : Value} (h : ThS w wr q kd an av ln ls ns ss p o) (hq : w.heap.size < q) (v : Value) : ThS w (wr.setCell ⟨q, 3, none⟩ v) q kd an av ln ls ns ss v o :=
  ⟨h.t.s3 v, h.r.other q 3 v (by omega), owns_setq h.n 3 v, owns_setq h.s 3 v, h.b.setCell (by simp only; omega) v, by simpa [World.setCell] using h.z⟩
theorem ThS.set4 {w wr : World} {q : Nat} {kd an av : Value} {ln ls : Nat} {ns ss : List Value} {p o : Value} (h : ThS w wr q kd an av ln ls ns ss p o) (hq : w.heap.size < q) (v : Value) : ThS w (wr.setCell ⟨q, 4, none⟩ v) q kd an av ln ls ns ss p v :=
  ⟨h.t.s4 v, h.r.other q 4 v (by omega), owns_setq h.n 4 v, owns_setq h.s 4 v, h.b.setCell (by simp only; omega) v, by simpa [World.setCell] using h.z⟩
theorem ThS.set1 {w wr : World} {q : Nat} {kd an av : Value} {ln ls : Nat} {ns ss : List Value} {p o : Value} (h : ThS w wr q kd an av ln ls ns ss p o) (hq : w.heap.size < q) {v : Value} {l : Nat} {xs : List Value} (hv : wr.ownsRow (q + 1) 3 1 v l xs) : ThS w (wr.setCell ⟨q, 1, none⟩ v) q kd v av l ls xs ss p o :=
  ⟨h.t.s1 v, h.r.other q 1 v (by omega), owns_setq hv 1 v, owns_setq h.s 1 v, h.b.setCell (by simp only; omega) v, by simpa [World.setCell] using h.z⟩
theorem ThS.set2 {w wr : World} {q : Nat} {kd an av : Value} {ln ls : Nat} {ns ss : List Value} {p o : Value} (h : ThS w wr q kd an av ln ls ns ss p o) (hq : w.heap.size < q) {v : Value} {l : Nat} {xs : List Value} (hv : wr.ownsRow (q + 1) 9 1 v l xs) : ThS w (wr.setCell ⟨q, 2, none⟩ v) q kd an v ln l ns xs p o :=
  ⟨h.t.s2 v, h.r.other q 2 v (by omega), owns_setq h.n 2 v, owns_setq hv 2 v, h.b.setCell (by simp only; omega) v, by simpa [World.setCell] using h.z⟩
theorem ThS.below {w wr w' : World} {q : Nat} {kd an av : Value} {ln ls : Nat} {ns ss : List Value} {p o : Value} (h : ThS w wr q kd an av ln ls ns ss p o) (hb : Below wr.heap.size wr w') : ThS w w' q kd an av ln ls ns ss p o :=
  ⟨h.t.below hb h.t.lt, h.r.below hb h.r.lt, owns_below h.n hb, owns_below h.s hb, h.b.trans (hb.mono h.b.size), Nat.le_trans h.z hb.size⟩
/-- Its numbers' row was grown, its texts' row was. -/
theorem ThS.grownN {w wr w' : World} {q : Nat} {kd an av : Value} {ln ls : Nat} {ns ss : List Value} {p o : Value} (h : ThS w wr q kd an av ln ls ns ss p o) (hq : w.heap.size < q) (hg : wr.grownBy w' an.ownBlock) {v : Value} {l : Nat} {xs : List Value} (hv : w'.ownsRow (q + 1) 3 1 v l xs) : ThS w (w'.setCell ⟨q, 1, none⟩ v) q kd v av l ls xs ss p o := by
  have t6 := h.t.grown hg (fun e => by have := (h.n.lt _ e).1; omega)
  have r6 := h.r.grown hg (fun e => by have := (h.n.lt _ e).1; omega)
  have s6 := h.s.kept hg (rows_apart h.s h.n (by decide))
  have b6 : Below w.heap.size w w' := h.b.grown hg (by have := h.z; omega) (fun k' hk' => by have := (h.n.lt _ hk').1; omega)
  have z6 : q + 1 ≤ w'.heap.size := Nat.le_trans h.z hg.size
  exact ⟨t6.s1 v, r6.other q 1 v (by omega), owns_setq hv 1 v, owns_setq s6 1 v, b6.setCell (by simp only; omega) v, by simpa [World.setCell] using z6⟩
theorem ThS.grownS {w wr w' : World} {q : Nat} {kd an av : Value} {ln ls : Nat} {ns ss : List Value} {p o : Value} (h : ThS w wr q kd an av ln ls ns ss p o) (hq : w.heap.size < q) (hg : wr.grownBy w' av.ownBlock) {v : Value} {l : Nat} {xs : List Value} (hv : w'.ownsRow (q + 1) 9 1 v l xs) : ThS w (w'.setCell ⟨q, 2, none⟩ v) q kd an v ln l ns xs p o := by
  have t6 := h.t.grown hg (fun e => by have := (h.s.lt _ e).1; omega)
  have r6 := h.r.grown hg (fun e => by have := (h.s.lt _ e).1; omega)
  have n6 := h.n.kept hg (rows_apart h.n h.s (by decide))
  have b6 : Below w.heap.size w w' := h.b.grown hg (by have := h.z; omega) (fun k' hk' => by have := (h.s.lt _ hk').1; omega)
  have z6 : q + 1 ≤ w'.heap.size := Nat.le_trans h.z hg.size
  exact ⟨t6.s2 v, r6.other q 2 v (by omega), owns_setq n6 2 v, owns_setq hv 2 v, b6.setCell (by simp only; omega) v, by simpa [World.setCell] using z6⟩
theorem kind_at (k : Nat) (h : k < 3) (h' : k < (⟨#[110, 98, 115]⟩ : ByteArray).size) : (⟨#[110, 98, 115]⟩ : ByteArray)[k].toNat = kb k := by
  rcases (by omega : k = 0 ∨ k = 1 ∨ k = 2) with rfl | rfl | rfl <;> rfl
set_option maxRecDepth 100000 in
set_option maxHeartbeats 2000000 in
theorem thing_any (HO : OneC) (c : Int) (w : World) (h1 : -9223372036854775808 ≤ c) (h2 : c ≤ 9223372036854775807) :
    Calls Tryz.prog 22 #[.int .i64 c] w fun e w' => ∃ kd an ln cn av ls cs, e = .returned (.agg #[.int .u8 kd, .slice an ln cn, .slice av ls cs, .string (thP c), .string (thO c)]) ∧ Below w.heap.size w w' := by
  have r3 := tdiv_rng c 3 (by decide) h1 h2
  have r9 := tdiv_rng c 9 (by decide) h1 h2
  have r81 := tdiv_rng c 81 (by decide) h1 h2
  have hk := pk_lt c 3 (by decide)
  have HP1 : Hid (∀ w, Calls Tryz.prog 6 #[.int .i64 c, .int .i64 3] w fun e w' => e = .returned (.int .i64 (thK c)) ∧ w' = w) := fun w => pick_any c 3 w h1 h2 (by decide) (by decide)
  have HP2 : Hid (∀ w, Calls Tryz.prog 6 #[.int .i64 (c.tdiv 3), .int .i64 3] w fun e w' => e = .returned (.int .i64 (pk (c.tdiv 3) 3)) ∧ w' = w) := fun w => pick_any (c.tdiv 3) 3 w r3.1 r3.2 (by decide) (by decide)
  have HP3 : Hid (∀ w, Calls Tryz.prog 6 #[.int .i64 (c.tdiv 9), .int .i64 9] w fun e w' => e = .returned (.int .i64 (thN c)) ∧ w' = w) := fun w => pick_any (c.tdiv 9) 9 w r9.1 r9.2 (by decide) (by decide)
  have hB0 : Below w.heap.size w (w.alloc (.cells #[.int .u8 0, .slice none 0 0, .slice none 0 0, .string ⟨#[]⟩, .string ⟨#[]⟩] 57)) := (Below.refl _ _).alloc (Nat.le_refl _) _
  have T0 := TB.new w (.int .u8 0) (.slice none 0 0) (.slice none 0 0) (.string ⟨#[]⟩) (.string ⟨#[]⟩)
  have HB0 : Hid _ := hB0
  have HT0 : Hid _ := T0
  clear hB0 T0
  go_enter Tryz.func22, Tryz.ntmps22
  go_wp2_with fail
  generalize (w.alloc (.cells #[.int .u8 0, .slice none 0 0, .slice none 0 0, .string ⟨#[]⟩, .string ⟨#[]⟩] 57)) = W0 at *
  refine (HP1.out W0).mono ?_
  rintro e w1 ⟨rfl, hw1⟩
  rw [hw1]
  clear hw1 w1
  have hk3 : thK c < 3 := hk
  have hks : thK c < (⟨#[110, 98, 115]⟩ : ByteArray).size := hk3
  have HKA : Hid _ := kind_at (thK c) hk3 hks
  clear hk
  have HFP : Hid (thP c = if thL c = true then lstP (fun i => oneP (thK c) (thA c i)) (thN c) ++ ⟨#[93]⟩ else oneP (thK c) (c.tdiv 9)) := rfl
  have HFO : Hid (thO c = if thL c = true then lstO (fun i => oneO (thK c) (thA c i)) (thN c) ++ ⟨#[93]⟩ else oneO (thK c) (c.tdiv 9)) := rfl
  have HFL : Hid (thL c = decide (pk (c.tdiv 3) 3 = 0)) := rfl
  have hn9 : thN c < 9 := pk_lt (c.tdiv 9) 9 (by decide)
  have hp3 := pk_lt (c.tdiv 3) 3 (by decide)
  generalize thK c = k at *
  generalize pk (c.tdiv 3) 3 = p at *
  go_wp2_with fail
  refine (HP2.out _).mono ?_
  rintro e w1 ⟨rfl, hw1⟩
  rw [hw1]
  clear hw1 w1
  rw [HKA.out]
  by_cases hp : p = 0
  · have t3 : decide (0 < p) = false := by simp; omega
    have HF : Hid (thP c = lstP (fun i => oneP k (thA c i)) (thN c) ++ ⟨#[93]⟩ ∧ thO c = lstO (fun i => oneO k (thA c i)) (thN c) ++ ⟨#[93]⟩) := by
      unfold Hid
      rw [HFP.out, HFO.out, HFL.out, if_pos (by simpa using hp), if_pos (by simpa using hp)]
      exact ⟨rfl, rfl⟩
    clear HFP HFO HFL hp
    go_wp2_with fail
    have T1 := TB.new W0 (.int .u8 (((kb k : Int) - 32) % 256)) (.slice none 0 0) (.slice none 0 0) (.string ⟨#[91]⟩) (.string ⟨#[91, 32, 10]⟩)
    have hB1 : Below W0.heap.size W0 (W0.alloc (.cells #[.int .u8 (((kb k : Int) - 32) % 256), .slice none 0 0, .slice none 0 0, .string ⟨#[91]⟩, .string ⟨#[91, 32, 10]⟩] 57)) := (Below.refl _ _).alloc (Nat.le_refl _) _
    have hz1 : (W0.alloc (.cells #[.int .u8 (((kb k : Int) - 32) % 256), .slice none 0 0, .slice none 0 0, .string ⟨#[91]⟩, .string ⟨#[91, 32, 10]⟩] 57)).heap.size = W0.heap.size + 1 := by simp
    have HT1 : Hid _ := T1
    have HR1 : Hid _ := HT0.out.below hB1 HT0.out.lt
    have HB1 : Hid _ := HB0.out.trans (hB1.mono HB0.out.size)
    have hq0 : w.heap.size < W0.heap.size := HT0.out.lt
    clear T1 hB1 HT0 HB0
    generalize hkd : ((kb k : Int) - 32) % 256 = kd at *
    clear hkd
    generalize (W0.alloc (.cells #[.int .u8 kd, .slice none 0 0, .slice none 0 0, .string ⟨#[91]⟩, .string ⟨#[91, 32, 10]⟩] 57)) = W1 at *
    generalize W0.heap.size = q at *
    refine (HP3.out W1).mono ?_
    rintro e w1 ⟨rfl, hw1⟩
    rw [hw1]
    clear hw1 w1
    have HN : Hid (∀ i, (oneP k (thA c i)).size ≤ 40 ∧ (oneO k (thA c i)).size ≤ 40) := fun i => one_size k (thA c i)
    have HL : Hid (∀ j, (lstP (fun i => oneP k (thA c i)) j).size ≤ 10 + 50 * j ∧ (lstO (fun i => oneO k (thA c i)) j).size ≤ 10 + 50 * j) := fun j => lst_size _ _ (fun i => (one_size k (thA c i)).1) (fun i => (one_size k (thA c i)).2) j
    have r81' := t81 c h1 h2
    obtain ⟨ii, hii, hi0, hi1, hi2⟩ := info_parts info_int
    obtain ⟨is, his, hs0, hs1, hs2⟩ := info_parts info_string
    generalize thN c = n at *
    go_wp2_with fail
    go_loopw [6] (fun iv wr => ∃ j : Nat, j ≤ n ∧ iv = .int .i64 j ∧ ∃ (an : Option Addr) (ln cn : Nat) (av : Option Addr) (ls cs : Nat) (ns ss : List Value), Hid (ThS w wr q (.int .u8 kd) (.slice an ln cn) (.slice av ls cs) ln ls ns ss (.string (lstP (fun i => oneP k (thA c i)) j)) (.string (lstO (fun i => oneO k (thA c i)) j))) ∧ ln ≤ j ∧ ls ≤ j) (fun iv _ => n - (intOf iv).toNat)
    case atStart => exact ⟨0, Nat.zero_le _, rfl, none, 0, 0, none, 0, 0, [], [], ⟨HT1.out, HR1.out, World.ownsRow_nil _ _ _ _, World.ownsRow_nil _ _ _ _, HB1.out, by omega⟩, Nat.le_refl _, Nat.le_refl _⟩
    case round =>
      obtain ⟨j, hj, rfl, an, ln, cn, av, ls, cs, ns, ss, hS0, hln, hls⟩ := hrel
      have HZL := HL.out j
      by_cases hjn : j < n
      · have tj : decide ((j : Int) < n) = true := by simp; omega
        have hoc : Hid (c.tdiv 81 + (j : Int) * 77777 = thA c j) := rfl
        have hA : Hid (-9223372036854775808 ≤ thA c j ∧ thA c j ≤ 9223372036854775807) := by unfold Hid thA; omega
        have HZN := HN.out j
        have FPO : Hid ((0 < j → lstP (fun i => oneP k (thA c i)) j ++ ⟨#[44, 32]⟩ ++ oneP k (thA c j) = lstP (fun i => oneP k (thA c i)) (j + 1)) ∧ (¬ 0 < j → lstP (fun i => oneP k (thA c i)) j ++ oneP k (thA c j) = lstP (fun i => oneP k (thA c i)) (j + 1)) ∧ lstO (fun i => oneO k (thA c i)) j ++ oneO k (thA c j) ++ ⟨#[32, 44, 10, 9]⟩ = lstO (fun i => oneO k (thA c i)) (j + 1)) := by
          refine ⟨fun h0 => ?_, fun h0 => ?_, rfl⟩
          · conv => rhs; unfold lstP
            rw [if_pos h0]
          · conv => rhs; unfold lstP
            rw [if_neg h0]
        generalize lstP (fun i => oneP k (thA c i)) j = lp at *
        generalize lstO (fun i => oneO k (thA c i)) j = lo at *
        go_wp2_with fail
        rw [hoc.out]
        refine (HO k (thA c j) wr hk3 hA.out.1 hA.out.2).mono ?_
        rintro e w2 ⟨nv, sv, rfl, hth, hB2⟩
        have hS2 := hS0.out.below hB2
        have hz2 := hB2.size
        have hzq := hS0.out.z
        clear hS0 hB2
        rcases hth with ⟨hk2, rfl, g, x, rfl, hg, hgc⟩ | ⟨hk2, rfl, g, x, rfl, hg, hgc⟩
        · have T3 := TB.new w2 (.int .u8 (kb k)) (.slice (some ⟨g, 0, none⟩) 1 1) (.slice none 0 0) (.string (oneP k (thA c j))) (.string (oneO k (thA c j)))
          have hgl : g < w2.heap.size := by
            rcases Nat.lt_or_ge g w2.heap.size with h' | h'
            · exact h'
            · have e0 : w2.heap[g]? = none := Array.getElem?_eq_none h'
              simp [World.cell?, e0] at hgc
          have hgc3 : Hid ((w2.alloc (.cells #[.int .u8 (kb k), .slice (some ⟨g, 0, none⟩) 1 1, .slice none 0 0, .string (oneP k (thA c j)), .string (oneO k (thA c j))] 57)).cell? ⟨g, 0, none⟩ = some (.int .i64 x)) := (World.cell?_alloc_lt _ _ ⟨g, 0, none⟩ hgl).trans hgc
          have hS3 := hS2.below ((Below.refl _ _).alloc (Nat.le_refl _) (.cells #[.int .u8 (kb k), .slice (some ⟨g, 0, none⟩) 1 1, .slice none 0 0, .string (oneP k (thA c j)), .string (oneO k (thA c j))] 57))
          have hxN : Hid (∀ k', (Value.slice an ln cn).ownBlock = some k' → k' < w2.heap.size) := fun k' hk' => (hS2.n.lt k' hk').2
          have hxS : Hid (∀ k', (Value.slice av ls cs).ownBlock = some k' → k' < w2.heap.size) := fun k' hk' => (hS2.s.lt k' hk').2
          have hz3 : q + 1 ≤ (w2.alloc (.cells #[.int .u8 (kb k), .slice (some ⟨g, 0, none⟩) 1 1, .slice none 0 0, .string (oneP k (thA c j)), .string (oneO k (thA c j))] 57)).heap.size := hS3.z
          have HS3 := hid hS3
          have HX3 := hid T3
          obtain ⟨d0, d1, d2, d3, d4, dF, dl⟩ := T3
          obtain ⟨c0, c1, c2, c3, c4, cF, cl⟩ := hS3.t
          clear hS2 hS3 hgc hk2
          go_wp2_with (at_builtin; refine wpList_append_own_at _ rfl _ _ 22 rfl (q + 1) 3 ii (.int .i64 0) 1 8 Tryz.underlying22 hii hi0 hi1 hi2 rfl (by decide) _ _ _ rfl HS3.out.n ⟨g, 0, none⟩ 1 1 [.int .i64 x] rfl rfl (by intro j' u hj'; match j', hj' with | 0, hj' => (simp at hj'; subst hj'; exact hgc3.out)) (by intro u hu; simp at hu; subst hu; rfl) (by unfold maxLen; omega) (by omega) hz3 ?_; intro v1 w6 hown6 hgrow6 hnil6 hat6; refine Hid.out ?_)
          have X6 := HX3.out.grown hgrow6 (fun e => by have := hxN.out _ e; omega)
          obtain ⟨a1, c1', e1⟩ := owns_form hown6
          subst e1
          have T6 := HS3.out.t.grown hgrow6 (fun e => by have := (HS3.out.n.lt _ e).1; omega)
          have hS7 := HS3.out.grownN hq0 hgrow6 hown6
          have HX7 := hid (X6.other q 1 (.slice a1 (ln + 1) c1') (by omega))
          clear hown6 hgrow6 hnil6 hat6 HX3 HS3 hgc3 d0 d1 d2 d3 d4 dF dl c0 c1 c2 c3 c4 cF cl
          obtain ⟨d0, d1, d2, d3, d4, dF, dl⟩ := X6
          obtain ⟨c0, c1, c2, c3, c4, cF, cl⟩ := T6
          have HS7 := hid hS7
          clear hS7
          unfold Hid
          go_wp2_with (at_builtin; refine wpList_append_own_none rfl _ _ 25 rfl (q + 1) 9 is 1 Tryz.underlying25 his _ _ _ rfl HS7.out.s rfl ?_; refine Hid.out ?_)
          clear c0 c1 c2 c3 c4 cF cl d0 d1 d2 d3 d4 dF dl
          generalize w6.setCell ⟨q, 1, none⟩ (.slice a1 (ln + 1) c1') = W7 at *
          have HS8 := hid (HS7.out.set2 hq0 HS7.out.s)
          obtain ⟨c0, c1, c2, c3, c4, cF, cl⟩ := HS7.out.t
          obtain ⟨d0, d1, d2, d3, d4, dF, dl⟩ := HX7.out
          unfold Hid
          by_cases hj0 : 0 < j
          · have tj0 : decide (0 < j) = true := by simpa using hj0
            have e1 := FPO.out.1 hj0
            have e2 := FPO.out.2.2
            have HF8 := hid (((HS8.out.set3 hq0 (.string (lp ++ ⟨#[44, 32]⟩))).set3 hq0 (.string (lp ++ ⟨#[44, 32]⟩ ++ oneP k (thA c j)))).set4 hq0 (.string (lo ++ oneO k (thA c j) ++ ⟨#[32, 44, 10, 9]⟩)))
            have E1 := hid e1
            have E2 := hid e2
            clear hj0 e1 e2 FPO
            go_wp2_with fail
            rw [E1.out, E2.out] at HF8 ⊢
            refine ⟨⟨j + 1, by omega, by go_num, _, _, _, _, _, _, _, _, HF8, by omega, by omega⟩, by simp [intOf]; omega⟩
          · have tj0 : decide (0 < j) = false := by simpa using hj0
            have e1 := FPO.out.2.1 hj0
            have e2 := FPO.out.2.2
            have HF8 := hid ((HS8.out.set3 hq0 (.string (lp ++ oneP k (thA c j)))).set4 hq0 (.string (lo ++ oneO k (thA c j) ++ ⟨#[32, 44, 10, 9]⟩)))
            have E1 := hid e1
            have E2 := hid e2
            clear hj0 e1 e2 FPO
            go_wp2_with fail
            rw [E1.out, E2.out] at HF8 ⊢
            refine ⟨⟨j + 1, by omega, by go_num, _, _, _, _, _, _, _, _, HF8, by omega, by omega⟩, by simp [intOf]; omega⟩
        · have T3 := TB.new w2 (.int .u8 (kb k)) (.slice none 0 0) (.slice (some ⟨g, 0, none⟩) 1 1) (.string (oneP k (thA c j))) (.string (oneO k (thA c j)))
          have hgl : g < w2.heap.size := by
            rcases Nat.lt_or_ge g w2.heap.size with h' | h'
            · exact h'
            · have e0 : w2.heap[g]? = none := Array.getElem?_eq_none h'
              simp [World.cell?, e0] at hgc
          have hgc3 : Hid ((w2.alloc (.cells #[.int .u8 (kb k), .slice none 0 0, .slice (some ⟨g, 0, none⟩) 1 1, .string (oneP k (thA c j)), .string (oneO k (thA c j))] 57)).cell? ⟨g, 0, none⟩ = some (.string x)) := (World.cell?_alloc_lt _ _ ⟨g, 0, none⟩ hgl).trans hgc
          have hS3 := hS2.below ((Below.refl _ _).alloc (Nat.le_refl _) (.cells #[.int .u8 (kb k), .slice none 0 0, .slice (some ⟨g, 0, none⟩) 1 1, .string (oneP k (thA c j)), .string (oneO k (thA c j))] 57))
          have hxN : Hid (∀ k', (Value.slice an ln cn).ownBlock = some k' → k' < w2.heap.size) := fun k' hk' => (hS2.n.lt k' hk').2
          have hxS : Hid (∀ k', (Value.slice av ls cs).ownBlock = some k' → k' < w2.heap.size) := fun k' hk' => (hS2.s.lt k' hk').2
          have hz3 : q + 1 ≤ (w2.alloc (.cells #[.int .u8 (kb k), .slice none 0 0, .slice (some ⟨g, 0, none⟩) 1 1, .string (oneP k (thA c j)), .string (oneO k (thA c j))] 57)).heap.size := hS3.z
          have HS3 := hid hS3
          have HX3 := hid T3
          obtain ⟨d0, d1, d2, d3, d4, dF, dl⟩ := T3
          obtain ⟨c0, c1, c2, c3, c4, cF, cl⟩ := hS3.t
          clear hS2 hS3 hgc hk2
          go_wp2_with (at_builtin; refine wpList_append_own_none rfl _ _ 22 rfl (q + 1) 3 ii 1 Tryz.underlying22 hii _ _ _ rfl HS3.out.n rfl ?_; refine Hid.out ?_)
          have HS4 := hid (HS3.out.set1 hq0 HS3.out.n)
          have HX4 := hid (HX3.out.other q 1 (.slice an ln cn) (by omega))
          have hgc4 : Hid (((w2.alloc (.cells #[.int .u8 (kb k), .slice none 0 0, .slice (some ⟨g, 0, none⟩) 1 1, .string (oneP k (thA c j)), .string (oneO k (thA c j))] 57)).setCell ⟨q, 1, none⟩ (.slice an ln cn)).cell? ⟨g, 0, none⟩ = some (.string x)) := (World.cell?_of_block (w := w2.alloc (.cells #[.int .u8 (kb k), .slice none 0 0, .slice (some ⟨g, 0, none⟩) 1 1, .string (oneP k (thA c j)), .string (oneO k (thA c j))] 57)) (Below.heap_setCell _ _ _ _ (by simp only; omega))).trans hgc3.out
          have hz4 := HS4.out.z
          unfold Hid
          go_wp2_with (at_builtin; refine wpList_append_own_at _ rfl _ _ 25 rfl (q + 1) 9 is (.string ⟨#[]⟩) 1 16 Tryz.underlying25 his hs0 hs1 hs2 rfl (by decide) _ _ _ rfl HS4.out.s ⟨g, 0, none⟩ 1 1 [.string x] rfl rfl (by intro j' u hj'; match j', hj' with | 0, hj' => (simp at hj'; subst hj'; exact hgc4.out)) (by intro u hu; simp at hu; subst hu; rfl) (by unfold maxLen; omega) (by omega) hz4 ?_; intro v1 w6 hown6 hgrow6 hnil6 hat6; refine Hid.out ?_)
          have X6 := HX4.out.grown hgrow6 (fun e => by have := hxS.out _ e; omega)
          obtain ⟨a1, c1', e1⟩ := owns_form hown6
          subst e1
          have T6 := HS4.out.t.grown hgrow6 (fun e => by have := (HS4.out.s.lt _ e).1; omega)
          have hS7 := HS4.out.grownS hq0 hgrow6 hown6
          clear hown6 hgrow6 hnil6 hat6 HX3 HS3 hgc3 d0 d1 d2 d3 d4 dF dl c0 c1 c2 c3 c4 cF cl HX4 HS4 hgc4
          obtain ⟨d0, d1, d2, d3, d4, dF, dl⟩ := X6
          obtain ⟨c0, c1, c2, c3, c4, cF, cl⟩ := T6
          have HS8 := hid hS7
          clear hS7
          unfold Hid
          by_cases hj0 : 0 < j
          · have tj0 : decide (0 < j) = true := by simpa using hj0
            have e1 := FPO.out.1 hj0
            have e2 := FPO.out.2.2
            have HF8 := hid (((HS8.out.set3 hq0 (.string (lp ++ ⟨#[44, 32]⟩))).set3 hq0 (.string (lp ++ ⟨#[44, 32]⟩ ++ oneP k (thA c j)))).set4 hq0 (.string (lo ++ oneO k (thA c j) ++ ⟨#[32, 44, 10, 9]⟩)))
            have E1 := hid e1
            have E2 := hid e2
            clear hj0 e1 e2 FPO
            go_wp2_with fail
            rw [E1.out, E2.out] at HF8 ⊢
            refine ⟨⟨j + 1, by omega, by go_num, _, _, _, _, _, _, _, _, HF8, by omega, by omega⟩, by simp [intOf]; omega⟩
          · have tj0 : decide (0 < j) = false := by simpa using hj0
            have e1 := FPO.out.2.1 hj0
            have e2 := FPO.out.2.2
            have HF8 := hid ((HS8.out.set3 hq0 (.string (lp ++ oneP k (thA c j)))).set4 hq0 (.string (lo ++ oneO k (thA c j) ++ ⟨#[32, 44, 10, 9]⟩)))
            have E1 := hid e1
            have E2 := hid e2
            clear hj0 e1 e2 FPO
            go_wp2_with fail
            rw [E1.out, E2.out] at HF8 ⊢
            refine ⟨⟨j + 1, by omega, by go_num, _, _, _, _, _, _, _, _, HF8, by omega, by omega⟩, by simp [intOf]; omega⟩
      · have tj : decide ((j : Int) < n) = false := by simp; omega
        have ejn : j = n := by omega
        subst ejn
        have hS9 := (hS0.out.set3 hq0 (.string (lstP (fun i => oneP k (thA c i)) j ++ ⟨#[93]⟩))).set4 hq0 (.string (lstO (fun i => oneO k (thA c i)) j ++ ⟨#[93]⟩))
        have HR9 := hid (hS9.r.put (.int .u8 kd) (.slice an ln cn) (.slice av ls cs) (.string (lstP (fun i => oneP k (thA c i)) j ++ ⟨#[93]⟩)) (.string (lstO (fun i => oneO k (thA c i)) j ++ ⟨#[93]⟩)))
        have HB9 := hid (below_putT hS9.b w.heap.size (Nat.le_refl _) (.int .u8 kd) (.slice an ln cn) (.slice av ls cs) (.string (lstP (fun i => oneP k (thA c i)) j ++ ⟨#[93]⟩)) (.string (lstO (fun i => oneO k (thA c i)) j ++ ⟨#[93]⟩)))
        obtain ⟨c0, c1, c2, c3, c4, cF, cl⟩ := hS0.out.t
        obtain ⟨d0, d1, d2, d3, d4, dF, dl⟩ := hS0.out.r
        have hqn : w.heap.size ≠ q := by omega
        clear hS9 hS0
        generalize lstP (fun i => oneP k (thA c i)) j = lp at *
        generalize lstO (fun i => oneO k (thA c i)) j = lo at *
        go_wp2_with fail
        obtain ⟨f0, f1, f2, f3, f4, fF, fl⟩ := HR9.out
        refine bodyPost_ret (v := .agg #[.int .u8 kd, .slice an ln cn, .slice av ls cs, .string (lp ++ ⟨#[93]⟩), .string (lo ++ ⟨#[93]⟩)]) (by unfold putT at f0 f1 f2 f3 f4; simp [results, Tryz.results22, go_sem, f0, f1, f2, f3, f4]) rfl ?_
        exact ⟨_, _, _, _, _, _, _, by rw [HF.out.1, HF.out.2], HB9.out⟩
  · have t3 : decide (0 < p) = true := by simp; omega
    have HF : Hid (thP c = oneP k (c.tdiv 9) ∧ thO c = oneO k (c.tdiv 9)) := by
      unfold Hid
      rw [HFP.out, HFO.out, HFL.out, if_neg (by simpa using hp), if_neg (by simpa using hp)]
      exact ⟨rfl, rfl⟩
    clear HFP HFO HFL hp
    go_wp2_with fail
    refine (HO k (c.tdiv 9) W0 hk3 r9.1 r9.2).mono ?_
    rintro e w2 ⟨nv, sv, rfl, hth, hB2⟩
    have T2 := HT0.out.below hB2 HT0.out.lt
    have HB2 : Hid (Below w.heap.size w w2) := HB0.out.trans (hB2.mono HB0.out.size)
    obtain ⟨an, ln, cn, av, ls, cs, rfl, rfl⟩ : ∃ an ln cn av ls cs, nv = .slice an ln cn ∧ sv = .slice av ls cs := by
      rcases hth with ⟨_, rfl, g, x, rfl, _⟩ | ⟨_, rfl, g, x, rfl, _⟩ <;> exact ⟨_, _, _, _, _, _, rfl, rfl⟩
    have HT2 := hid (T2)
    obtain ⟨c0, c1, c2, c3, c4, cF, cl⟩ := T2
    clear hth hB2 HT0 HB0
    go_wp2_with fail
    have XF := HT2.out.put (.int .u8 (kb k)) (.slice an ln cn) (.slice av ls cs) (.string (oneP k (c.tdiv 9))) (.string (oneO k (c.tdiv 9)))
    obtain ⟨f0, f1, f2, f3, f4, fF, fl⟩ := XF
    refine bodyPost_ret (v := .agg #[.int .u8 (kb k), .slice an ln cn, .slice av ls cs, .string (oneP k (c.tdiv 9)), .string (oneO k (c.tdiv 9))]) (by unfold putT at f0 f1 f2 f3 f4; simp [results, Tryz.results22, go_sem, f0, f1, f2, f3, f4]) rfl ?_
    exact ⟨_, _, _, _, _, _, _, by rw [HF.out.1, HF.out.2], below_putT HB2.out _ (Nat.le_refl _) _ _ _ _ _⟩
end Go.Proofs.YtdebjhdafnpfkabGreatDoor
