import Derived.Test.YtdebjhdafnpfkabGreatDoorK32
import Derived.Test.YtdebjhdafnpfkabGreatDoorK23
import Derived.Test.YtdebjhdafnpfkabGreatDoorK33
import Derived.Test.YtdebjhdafnpfkabGreatDoorK30
import Derived.Test.YtdebjhdafnpfkabGreatDoorK02
import Derived.OwnWalk
namespace Go.Proofs.YtdebjhdafnpfkabGreatDoor
open Go.ChangeShapes Go.WideShapes Go.ChangeAt Go.RowKit Go.Lib
set_option linter.unusedVariables false
set_option linter.unusedSimpArgs false
theorem len64_any (u : Nat) (h : u < 18446744073709551616) (w : World) : Calls Tryz.prog 192 #[.int .u64 u] w fun e w' => e = .returned (.int .i64 (Lib.bitLen u)) ∧ w' = w := by
  have := Any.bits_Len64 (P := Tryz.prog) (ρ := Tryz.laysM171_ren) { Tryz.laysM171 with } (u : Int) w (by omega) (by omega)
  rw [show ((u : Int)).toNat = u by omega] at this
  exact this
theorem log10_any (x : Nat) (h : x ≤ 64) (w : World) : Calls Tryz.prog 191 #[.int .i64 x] w fun e w' => e = .returned (.int .i64 (Lib.l10 x)) ∧ w' = w :=
  Any.internal_strconv_log10Pow2 (P := Tryz.prog) (ρ := Tryz.laysM171_ren) { Tryz.laysM171 with } x h w
theorem bool2_any (b : Bool) (w : World) : Calls Tryz.prog 193 #[.bool b] w fun e w' => e = .returned (.int .i64 (if b = true then 1 else 0 : Nat)) ∧ w' = w := by
  cases b
  · go_enter Tryz.func193, Tryz.ntmps193
    go_wp2
    go_ret
    exact ⟨rfl, rfl⟩
  · go_enter Tryz.func193, Tryz.ntmps193
    go_wp2
    go_ret
    exact ⟨rfl, rfl⟩
/-- The library's table, whatever it holds. -/
def TabW (T : Nat → Nat) (w : World) : Prop := ∀ i, i < 20 → w.cell? ⟨4, i, none⟩ = some (.int .u64 (T i))
def ndT (T : Nat → Nat) (u : Nat) : Nat := Lib.l10 (Lib.bitLen u) + (if T (Lib.l10 (Lib.bitLen u)) ≤ u then 1 else 0)
theorem bit_cases (u : Nat) (h1 : 1 ≤ u) (hu : u < 2097152) : 1 ≤ Lib.bitLen u ∧ Lib.bitLen u ≤ 21 ∧ 2 ^ (Lib.bitLen u - 1) ≤ u ∧ u < 2 ^ Lib.bitLen u := by
  obtain ⟨h2, h3, h4⟩ := Lib.bitLenAux_bounds 64 u (Nat.lt_trans hu (by decide)) (by omega)
  refine ⟨h2, ?_, h3, h4⟩
  rcases Nat.lt_or_ge (Lib.bitLen u) 22 with h | h
  · omega
  · exfalso
    have : 2 ^ 21 ≤ 2 ^ (Lib.bitLen u - 1) := Nat.pow_le_pow_right (by decide) (by omega)
    have h5 : 2 ^ (Lib.bitLen u - 1) ≤ u := h3
    omega
theorem nd_facts (T : Nat → Nat) (u : Nat) (h1 : 1 ≤ u) (hu : u < 2097152) : ndT T u ≤ 7 ∧ (ndT T u = 1 → u < 64) ∧ (ndT T u = 3 → u < 8192) ∧ (ndT T u = 5 → u < 524288) ∧ (64 ≤ u → 2 ≤ ndT T u) := by
  obtain ⟨b1, b2, b3, b4⟩ := bit_cases u h1 hu
  unfold ndT
  have hc : (if T (Lib.l10 (Lib.bitLen u)) ≤ u then 1 else 0) ≤ 1 := by split <;> omega
  generalize (if T (Lib.l10 (Lib.bitLen u)) ≤ u then 1 else 0) = c at *
  generalize Lib.bitLen u = b at *
  unfold Lib.l10
  rcases (by omega : b = 1 ∨ b = 2 ∨ b = 3 ∨ b = 4 ∨ b = 5 ∨ b = 6 ∨ b = 7 ∨ b = 8 ∨ b = 9 ∨ b = 10 ∨ b = 11 ∨ b = 12 ∨ b = 13 ∨ b = 14 ∨ b = 15 ∨ b = 16 ∨ b = 17 ∨ b = 18 ∨ b = 19 ∨ b = 20 ∨ b = 21) with rfl | rfl | rfl | rfl | rfl | rfl | rfl | rfl | rfl | rfl | rfl | rfl | rfl | rfl | rfl | rfl | rfl | rfl | rfl | rfl | rfl
  all_goals (simp only [Nat.reducePow, Nat.reduceSub, Nat.reduceMul, Nat.reduceDiv] at b3 b4 ⊢; omega)
theorem numDigits_any (T : Nat → Nat) (u : Nat) (h1 : 1 ≤ u) (hu : u < 2097152) (w : World) (ht : TabW T w) : Calls Tryz.prog 188 #[.int .u64 u] w fun e w' => e = .returned (.int .i64 (ndT T u)) ∧ w' = w := by
  have hL : Lib.bitLen u ≤ 64 := Lib.bitLen_le u 64 (Nat.le_refl _) (by omega)
  have h20 := (Lib.numDigits_eq u h1 (by omega)).2
  have H1 := hid (len64_any u (by omega))
  have H2 := hid (log10_any (Lib.bitLen u) hL)
  have hcell := ht (Lib.l10 (Lib.bitLen u)) (by omega)
  have FN : Hid (ndT T u = Lib.l10 (Lib.bitLen u) + (if T (Lib.l10 (Lib.bitLen u)) ≤ u then 1 else 0)) := rfl
  clear ht
  generalize Lib.bitLen u = bb at *
  generalize Lib.l10 bb = q at *
  generalize T q = tq at *
  have hq20 : q < 20 := by omega
  go_enter Tryz.func188, Tryz.ntmps188
  go_wp2_with fail
  refine (H1.out _).mono ?_
  rintro e w1 ⟨rfl, hw1⟩
  rw [hw1]
  clear hw1
  go_wp2_with fail
  refine (H2.out _).mono ?_
  rintro e w2 ⟨rfl, hw2⟩
  rw [hw2]
  clear hw2
  go_wp2_with fail
  refine (bool2_any _ _).mono ?_
  rintro e w3 ⟨rfl, hw3⟩
  rw [hw3]
  clear hw3
  have FC : Hid (ndT T u = q + (if decide (tq ≤ u) = true then 1 else 0)) := by unfold Hid; rw [FN.out]; simp only [decide_eq_true_eq]
  have hc1 : (if decide (tq ≤ u) = true then 1 else 0) ≤ 1 := by split <;> omega
  clear FN
  generalize (if decide (tq ≤ u) = true then 1 else 0) = cc at *
  go_wp2_with fail
  go_ret
  exact ⟨by rw [FC.out]; push_cast; rfl, rfl⟩
theorem conv_list (w : World) (g off cap : Nat) (l : List UInt8) (h : ∀ (j : Nat) (b : UInt8), l[j]? = some b → w.cell? ⟨g, off + j, none⟩ = some (.int .u8 b.toNat)) :
    (convert 43 9 (.slice (some ⟨g, off, none⟩) l.length cap)).run Tryz.prog w = .ok (.string ⟨l.toArray⟩) w := by
  refine run_convert_bytes_back w 43 9 5 ⟨g, off, none⟩ cap l Tryz.underlying43 Tryz.underlying5 Tryz.underlying9 ?_
  intro j hj
  rw [Addr.add_lit]
  exact h j l[j] (List.getElem?_eq_getElem hj)
theorem wrap_neg (u : Nat) (hu : u < 2097152) : IntKind.u64.wrap (-IntKind.u64.wrap (-(u : Int))) = (u : Int) := by
  simp [IntKind.wrap, IntKind.signed, IntKind.bits]
  omega
theorem fmL_lt (nd u : Nat) : ∀ v ∈ fmL nd u, v < 256 := by
  have hA : ∀ x, dgA x < 256 := fun x => UInt8.toNat_lt _
  have hB : ∀ x, dgB2 x < 256 := fun x => UInt8.toNat_lt _
  have hM : ∀ x, (48 + x) % 256 < 256 := fun x => Nat.mod_lt _ (by decide)
  match nd with
  | 0 => simp [fmL]
  | 1 => simp [fmL, hM]
  | 2 => simp [fmL, hA, hB]
  | 3 => simp [fmL, hA, hB, hM]
  | 4 => simp [fmL, hA, hB]
  | 5 => simp [fmL, hA, hB, hM]
  | 6 => simp [fmL, hA, hB]
  | n + 7 => simp [fmL, hA, hB, hM]
theorem sm_dig : ∀ i, i < 200 → 48 ≤ (sm i).toNat := by decide +kernel
theorem fmL_ge (nd u : Nat) (hu : u < 2097152) (h1 : nd = 1 → u < 64) (h3 : nd = 3 → u < 8192) (h5 : nd = 5 → u < 524288) : ∀ v ∈ fmL nd u, 45 ≤ v := by
  have hA : ∀ x, 45 ≤ dgA x := fun x => Nat.le_trans (by decide) (sm_dig _ (by omega))
  have hB : ∀ x, 45 ≤ dgB2 x := fun x => Nat.le_trans (by decide) (sm_dig _ (by omega))
  match nd with
  | 0 => simp [fmL]
  | 1 => have := h1 rfl; simp [fmL]; omega
  | 2 => simp [fmL, hA, hB]
  | 3 => have := h3 rfl; simp [fmL, hA, hB]; omega
  | 4 => simp [fmL, hA, hB]
  | 5 => have := h5 rfl; simp [fmL, hA, hB]; omega
  | 6 => simp [fmL, hA, hB]
  | n + 7 => simp [fmL, hA, hB]; omega
theorem fmL_len (nd u : Nat) (h : nd ≤ 7) : (fmL nd u).length = nd := by
  match nd, h with
  | 0, _ => rfl
  | 1, _ => rfl
  | 2, _ => rfl
  | 3, _ => rfl
  | 4, _ => rfl
  | 5, _ => rfl
  | 6, _ => rfl
  | 7, _ => rfl
  | n + 8, h => omega
/-- formatBase10, of as many places. -/
theorem b10_any (nd g u : Nat) (hnd : nd ≤ 7) (hu : u < 2097152) (w w0 : World) (f : Nat → Nat) (hR : R24 w0 w g f) :
    Calls Tryz.prog 189 #[.slice (some ⟨g, 1, none⟩) nd 23, .int .u64 u] w fun e w' => e = .returned (.tuple #[]) ∧ B10 nd u w0 w' g f := by
  rcases (by omega : nd = 0 ∨ nd = 1 ∨ nd = 2 ∨ nd = 3 ∨ nd = 4 ∨ nd = 5 ∨ nd = 6 ∨ nd = 7) with rfl | rfl | rfl | rfl | rfl | rfl | rfl | rfl
  · exact b10_0 g u hu w w0 f hR
  · exact b10_1 g u hu w w0 f hR
  · exact b10_2 g u hu w w0 f hR
  · exact b10_3 g u hu w w0 f hR
  · exact b10_4 g u hu w w0 f hR
  · exact b10_5 g u hu w w0 f hR
  · exact b10_6 g u hu w w0 f hR
  · exact b10_7 g u hu w w0 f hR
def negS (nd u : Nat) : ByteArray := ⟨((45 :: fmL nd u).map UInt8.ofNat).toArray⟩
def posS (nd u : Nat) : ByteArray := ⟨((fmL nd u).map UInt8.ofNat).toArray⟩
theorem upd_same (f : Nat → Nat) (i v : Nat) : upd f i v i = v := by unfold upd; rw [if_pos rfl]
theorem upd_off (f : Nat → Nat) (i v j : Nat) (h : j ≠ i) : upd f i v j = f j := by unfold upd; rw [if_neg h]
theorem ofNat_cast (v : Nat) (h : v < 256) : (((UInt8.ofNat v).toNat : Nat) : Int) = (v : Int) := by rw [UInt8.toNat_ofNat', Nat.mod_eq_of_lt (by omega)]
theorem neg_cells {w0 W : World} {g : Nat} {f : Nat → Nat} {l : List Nat} (h : R24 w0 W g f) (h0 : f 0 = 45) (hl : ∀ i v, l[i]? = some v → f (1 + i) = v) (hv : ∀ v ∈ l, v < 256) (hlen : l.length ≤ 20) :
    ∀ (j : Nat) (b : UInt8), ((45 :: l).map UInt8.ofNat)[j]? = some b → W.cell? ⟨g, 0 + j, none⟩ = some (.int .u8 b.toNat) := by
  intro j b hb
  rw [List.getElem?_map] at hb
  obtain ⟨v, hv1, rfl⟩ := Option.map_eq_some_iff.1 hb
  rw [Nat.zero_add]
  match j, hv1 with
  | 0, hv1 =>
    simp only [List.getElem?_cons_zero, Option.some.injEq] at hv1
    subst hv1
    rw [h.cell 0 (by omega), h0]
    rfl
  | j + 1, hv1 =>
    rw [List.getElem?_cons_succ] at hv1
    have hj := (List.getElem?_eq_some_iff.1 hv1).1
    rw [h.cell (j + 1) (by omega), Nat.add_comm j 1, hl j v hv1, ofNat_cast v (hv v (List.mem_of_getElem? hv1))]
theorem pos_cells {w0 W : World} {g : Nat} {f : Nat → Nat} {l : List Nat} (h : R24 w0 W g f) (hl : ∀ i v, l[i]? = some v → f (1 + i) = v) (hv : ∀ v ∈ l, v < 256) (hlen : l.length ≤ 20) :
    ∀ (j : Nat) (b : UInt8), (l.map UInt8.ofNat)[j]? = some b → W.cell? ⟨g, 1 + j, none⟩ = some (.int .u8 b.toNat) := by
  intro j b hb
  rw [List.getElem?_map] at hb
  obtain ⟨v, hv1, rfl⟩ := Option.map_eq_some_iff.1 hb
  have hj := (List.getElem?_eq_some_iff.1 hv1).1
  rw [h.cell (1 + j) (by omega), hl j v hv1, ofNat_cast v (hv v (List.mem_of_getElem? hv1))]
set_option maxRecDepth 100000 in
set_option maxHeartbeats 2000000 in
theorem formatNeg (T : Nat → Nat) (u : Nat) (h1 : 1 ≤ u) (hu : u < 2097152) (w : World) (ht : TabW T w) (hT : 4 < w.heap.size) :
    Calls Tryz.prog 186 #[.int .i64 (-(u : Int)), .int .i64 10] w fun e w' => e = .returned (.string (negS (ndT T u) u)) ∧ Below w.heap.size w w' := by
  have hnd := (nd_facts T u h1 hu).1
  have t0 : decide (0 ≤ -(u : Int)) = false := by simp; omega
  have t0' : ¬ (0 ≤ -(u : Int)) := by omega
  have t1 : decide (-(u : Int) < 0) = true := by simp; omega
  have hwr := wrap_neg u hu
  have HB : Hid (Below w.heap.size w (w.alloc (.cells (Array.replicate 24 (.int .u8 0)) 238))) := (Below.refl _ _).alloc (Nat.le_refl _) _
  have HT1 : Hid (TabW T (w.alloc (.cells (Array.replicate 24 (.int .u8 0)) 238))) := fun i hi => (HB.out.cell (p := ⟨4, i, none⟩) hT).trans (ht i hi)
  have HR : Hid (R24 (w.alloc (.cells (Array.replicate 24 (.int .u8 0)) 238)) (w.alloc (.cells (Array.replicate 24 (.int .u8 0)) 238)) w.heap.size (fun _ => 0)) := by
    refine ⟨fun o ho => ?_, fun o => by simp, Below.refl _ _, rfl⟩
    rw [World.cell?_alloc_at _ _ _ _ rfl]
    simp [Array.getElem?_replicate, ho]
  clear ht
  go_enter Tryz.func186, Tryz.ntmps186
  go_wp2_with fail
  change Calls _ _ _ (w.alloc (.cells (Array.replicate 24 (.int .u8 0)) 238)) _
  have hzW : w.heap.size < (w.alloc (.cells (Array.replicate 24 (.int .u8 0)) 238)).heap.size := by simp
  generalize w.alloc (.cells (Array.replicate 24 (.int .u8 0)) 238) = W at *
  refine (numDigits_any T u h1 hu W HT1.out).mono ?_
  rintro e w1 ⟨rfl, hw1⟩
  rw [hw1]
  clear hw1
  have hlen := hid (fmL_len (ndT T u) u hnd)
  have hlt := hid (fmL_lt (ndT T u) u)
  generalize hE : ndT T u = nd at *
  have HE := hid hE
  clear hE
  rcases (by omega : nd = 0 ∨ nd = 1 ∨ nd = 2 ∨ nd = 3 ∨ nd = 4 ∨ nd = 5 ∨ nd = 6 ∨ nd = 7) with rfl | rfl | rfl | rfl | rfl | rfl | rfl | rfl
  all_goals (
    go_wp2_with fail
    refine (b10_any _ w.heap.size u (by omega) hu W W _ HR.out).mono ?_
    rintro e w2 ⟨rfl, f', hR2, hf0, hfs⟩
    have HR3 := hid (hR2.set 0 45 (by omega))
    have hcv := fun cap => conv_list (w2.setCell ⟨w.heap.size, 0, none⟩ (.int .u8 45)) w.heap.size 0 cap ((45 :: fmL _ u).map UInt8.ofNat) (neg_cells HR3.out (upd_same _ _ _) (fun i v hv => by rw [upd_off _ _ _ _ (by omega)]; exact hfs i v hv) hlt.out (by rw [hlen.out]; omega))
    rw [List.length_map, List.length_cons, hlen.out] at hcv
    have d0 := hR2.cell 0 (by omega)
    have dF := hR2.fz
    have HBF : Hid (Below w.heap.size w (w2.setCell ⟨w.heap.size, 0, none⟩ (.int .u8 45))) := HB.out.trans HR3.out.b
    have hzz : w.heap.size < w2.heap.size := by have := hR2.z; omega
    clear hR2 hfs hf0 HR
    go_wp2_with fail
    go_ret
    exact ⟨by rw [HE.out]; rfl, HBF.out⟩)
set_option maxRecDepth 100000 in
set_option maxHeartbeats 2000000 in
theorem formatPos (T : Nat → Nat) (u : Nat) (h1 : 100 ≤ u) (hu : u < 2097152) (w : World) (ht : TabW T w) (hT : 4 < w.heap.size) :
    Calls Tryz.prog 186 #[.int .i64 (u : Int), .int .i64 10] w fun e w' => e = .returned (.string (posS (ndT T u) u)) ∧ Below w.heap.size w w' := by
  have hnd := (nd_facts T u (by omega) hu).1
  have t0 : decide (u < 100) = false := by simp; omega
  have t0' : decide ((u : Int) < 100) = false := by simp; omega
  have t1 : decide ((u : Int) < 0) = false := by simp
  have hwr : IntKind.u64.wrap (u : Int) = u := by simp [IntKind.wrap, IntKind.signed, IntKind.bits]; omega
  have HB : Hid (Below w.heap.size w (w.alloc (.cells (Array.replicate 24 (.int .u8 0)) 238))) := (Below.refl _ _).alloc (Nat.le_refl _) _
  have HT1 : Hid (TabW T (w.alloc (.cells (Array.replicate 24 (.int .u8 0)) 238))) := fun i hi => (HB.out.cell (p := ⟨4, i, none⟩) hT).trans (ht i hi)
  have HR : Hid (R24 (w.alloc (.cells (Array.replicate 24 (.int .u8 0)) 238)) (w.alloc (.cells (Array.replicate 24 (.int .u8 0)) 238)) w.heap.size (fun _ => 0)) := by
    refine ⟨fun o ho => ?_, fun o => by simp, Below.refl _ _, rfl⟩
    rw [World.cell?_alloc_at _ _ _ _ rfl]
    simp [Array.getElem?_replicate, ho]
  clear ht
  go_enter Tryz.func186, Tryz.ntmps186
  go_wp2_with fail
  change Calls _ _ _ (w.alloc (.cells (Array.replicate 24 (.int .u8 0)) 238)) _
  have hzW : w.heap.size < (w.alloc (.cells (Array.replicate 24 (.int .u8 0)) 238)).heap.size := by simp
  generalize w.alloc (.cells (Array.replicate 24 (.int .u8 0)) 238) = W at *
  refine (numDigits_any T u (by omega) hu W HT1.out).mono ?_
  rintro e w1 ⟨rfl, hw1⟩
  rw [hw1]
  clear hw1
  have hlen := hid (fmL_len (ndT T u) u hnd)
  have hlt := hid (fmL_lt (ndT T u) u)
  generalize hE : ndT T u = nd at *
  have HE := hid hE
  clear hE
  rcases (by omega : nd = 0 ∨ nd = 1 ∨ nd = 2 ∨ nd = 3 ∨ nd = 4 ∨ nd = 5 ∨ nd = 6 ∨ nd = 7) with rfl | rfl | rfl | rfl | rfl | rfl | rfl | rfl
  all_goals (
    go_wp2_with fail
    refine (b10_any _ w.heap.size u (by omega) hu W W _ HR.out).mono ?_
    rintro e w2 ⟨rfl, f', hR2, hf0, hfs⟩
    have HR3 := hid hR2
    have hcv := fun cap => conv_list w2 w.heap.size 1 cap ((fmL _ u).map UInt8.ofNat) (pos_cells HR3.out hfs hlt.out (by rw [hlen.out]; omega))
    rw [List.length_map, hlen.out] at hcv
    have d0 := hR2.cell 0 (by omega)
    have dF := hR2.fz
    have HBF : Hid (Below w.heap.size w w2) := HB.out.trans HR3.out.b
    have hzz : w.heap.size < w2.heap.size := by have := hR2.z; omega
    clear hR2 hfs hf0 HR
    go_wp2_with fail
    go_ret
    exact ⟨by rw [HE.out]; rfl, HBF.out⟩)
/-- What is told of a number over a table. -/
def fnT (T : Nat → Nat) (n : Int) : ByteArray := if n < 0 then negS (ndT T n.natAbs) n.natAbs else if n < 100 then ⟨(Lib.decDigits n.toNat).toArray⟩ else posS (ndT T n.natAbs) n.natAbs
theorem numF_any (T : Nat → Nat) (n : Int) (h1 : -2000000 < n) (h2 : n < 2000000) (w : World) (ht : TabW T w) (hT : 4 < w.heap.size) : Calls Tryz.prog 183 #[.int .i64 n] w fun e w' => e = .returned (.string (fnT T n)) ∧ Below w.heap.size w w' := by
  have go : ∀ s : ByteArray, (Calls Tryz.prog 186 #[.int .i64 n, .int .i64 10] w fun e w' => e = .returned (.string s) ∧ Below w.heap.size w w') → Calls Tryz.prog 183 #[.int .i64 n] w fun e w' => e = .returned (.string s) ∧ Below w.heap.size w w' := by
    intro s hs
    have HS := hid hs
    have H1 : Hid (Calls Tryz.prog 185 #[.int .i64 n] w fun e w' => e = .returned (.string s) ∧ Below w.heap.size w w') := by
      unfold Hid
      clear hs
      go_enter Tryz.func185, Tryz.ntmps185
      go_wp2_with fail
      refine HS.out.mono ?_
      rintro e w1 ⟨rfl, hB⟩
      go_wp2_with fail
      go_ret
      exact ⟨rfl, hB⟩
    have H2 : Hid (Calls Tryz.prog 184 #[.int .i64 n] w fun e w' => e = .returned (.string s) ∧ Below w.heap.size w w') := by
      unfold Hid
      clear hs
      go_enter Tryz.func184, Tryz.ntmps184
      go_wp2_with fail
      refine H1.out.mono ?_
      rintro e w1 ⟨rfl, hB⟩
      go_wp2_with fail
      go_ret
      exact ⟨rfl, hB⟩
    clear hs HS H1
    go_enter Tryz.func183, Tryz.ntmps183
    go_wp2_with fail
    refine H2.out.mono ?_
    rintro e w1 ⟨rfl, hB⟩
    go_wp2_with fail
    go_ret
    exact ⟨rfl, hB⟩
  unfold fnT
  by_cases hn : n < 0
  · rw [if_pos hn]
    apply go
    have e : n = -(n.natAbs : Int) := by omega
    have := formatNeg T n.natAbs (by omega) (by omega) w ht hT
    rw [← e] at this
    exact this
  · rw [if_neg hn]
    by_cases hs : n < 100
    · rw [if_pos hs]
      have e : n = (n.toNat : Int) := by omega
      have := num_small n.toNat (by omega) w
      rw [← e] at this
      exact this
    · rw [if_neg hs]
      apply go
      have e : n = (n.natAbs : Int) := by omega
      have := formatPos T n.natAbs (by omega) (by omega) w ht hT
      rw [← e] at this
      exact this
theorem decD_ok : ∀ n, n < 100 → (Lib.decDigits n).length ≤ 20 ∧ 0 < (Lib.decDigits n).length ∧ (Lib.decDigits n).all (fun c => decide (45 ≤ c.toNat)) = true := by decide +kernel
theorem fn_ok (T : Nat → Nat) : FnOk (fnT T) := by
  intro n h1 h2
  have key : ∀ (l : List Nat), 0 < l.length → l.length ≤ 20 → (∀ v ∈ l, v < 256 ∧ 45 ≤ v) → 0 < (⟨(l.map UInt8.ofNat).toArray⟩ : ByteArray).size ∧ (⟨(l.map UInt8.ofNat).toArray⟩ : ByteArray).size ≤ 20 ∧ ∀ c ∈ bl ⟨(l.map UInt8.ofNat).toArray⟩, 45 ≤ c := by
    intro l a b c
    have hz : (⟨(l.map UInt8.ofNat).toArray⟩ : ByteArray).size = l.length := by show (l.map UInt8.ofNat).toArray.size = _; simp
    refine ⟨by omega, by omega, fun d hd => ?_⟩
    rw [bl_arr, List.map_map, List.mem_map] at hd
    obtain ⟨v, hv, rfl⟩ := hd
    have := c v hv
    show 45 ≤ (UInt8.ofNat v).toNat
    rw [UInt8.toNat_ofNat', Nat.mod_eq_of_lt (by omega)]
    exact this.2
  unfold fnT
  split
  · obtain ⟨f1, f2, f3, f4, f5⟩ := nd_facts T n.natAbs (by omega) (by omega)
    have hl := fmL_len (ndT T n.natAbs) n.natAbs f1
    refine key _ (by simp) (by rw [List.length_cons, hl]; omega) (fun v hv => ?_)
    rw [List.mem_cons] at hv
    rcases hv with rfl | hv
    · omega
    · exact ⟨fmL_lt _ _ v hv, fmL_ge _ _ (by omega) f2 f3 f4 v hv⟩
  · split
    · obtain ⟨d1, d2, d3⟩ := decD_ok n.toNat (by omega)
      have hz : (⟨(Lib.decDigits n.toNat).toArray⟩ : ByteArray).size = (Lib.decDigits n.toNat).length := by show (Lib.decDigits n.toNat).toArray.size = _; simp
      refine ⟨by omega, by omega, fun c hc => ?_⟩
      rw [bl_arr, List.mem_map] at hc
      obtain ⟨x, hx, rfl⟩ := hc
      simpa using List.all_eq_true.1 d3 x hx
    · obtain ⟨f1, f2, f3, f4, f5⟩ := nd_facts T n.natAbs (by omega) (by omega)
      have hl := fmL_len (ndT T n.natAbs) n.natAbs f1
      exact key _ (by rw [hl]; have := f5 (by omega); omega) (by rw [hl]; omega) (fun v hv => ⟨fmL_lt _ _ v hv, fmL_ge _ _ (by omega) f2 f3 f4 v hv⟩)
end Go.Proofs.YtdebjhdafnpfkabGreatDoor

namespace Go.Proofs.YtdebjhdafnpfkabGreatDoor
open Go.ChangeShapes Go.WideShapes Go.ChangeAt Go.RowKit
set_option linter.unusedVariables false
set_option linter.unusedSimpArgs false
theorem SubRow.below {w w' : World} {ev : Value} {m : Nat} {es : List Value} (h : SubRow w ev m es) (hb : Below w.heap.size w w') : SubRow w' ev m es := by
  refine ⟨h.len, h.form, fun k v hk => ?_⟩
  obtain ⟨ad, cap, g, off, e, e2, h1, h2⟩ := h.cells k v hk
  have hz := hb.size
  exact ⟨ad, cap, g, off, e, e2, by omega, (hb.cell (p := ⟨g, off + k, none⟩) h1).trans h2⟩
set_option maxRecDepth 100000 in
set_option maxHeartbeats 1000000 in
theorem list_flat (b B : Nat) (w0 : World) (lv : Value) (n : Nat) (vs : List Value) (outs : List ByteArray) (w : World) (hs : SubRow w lv n vs) (hol : outs.length = n) (hn : n ≤ 4000) (hn0 : 0 < n) (hk : Kp b B w0 w) (hBw : B ≤ w.heap.size)
    (hf : ∀ (i : Nat) (v : Value) (o : ByteArray), vs[i]? = some v → outs[i]? = some o → FlatsTo b B w0 v o) (hz : (Lib.join (outs.map (·.data.toList)) [44, 32]).length ≤ 1000000) :
    Calls Tryz.prog 175 #[lv] w fun e w' => e = .returned (.string (listS outs)) ∧ Below w.heap.size w w' := by
  obtain ⟨i0, hi, hz0, hz1, hz2⟩ := info_parts info_string
  obtain ⟨ad, cap, rfl⟩ := hs.form
  have HS : Hid _ := hs
  have HF : Hid _ := hf
  have HK : Hid _ := hk
  have HOL : Hid (outs.length = n) := hol
  have Hz : Hid _ := hz
  clear hs hf hk hol hz
  go_enter Tryz.func175, Tryz.ntmps175
  go_wp2_with (at_make; refine wpList_make_own _ rfl _ _ 25 rfl w.heap.size 9 i0 (.string ⟨#[]⟩) 1 Tryz.underlying25 hi hz0 hz1 .i64 .i64 _ n rfl rfl (by first | rfl | omega) (by rw [hz2]; omega) (by unfold maxLen; omega) (Nat.le_refl _) ?_; intro w1 hown1 hgrow1; refine Hid.out ?_)
  have hB1 : Below w.heap.size w w1 := (Below.refl _ _).grown hgrow1 (Nat.le_refl _) (fun k hk => by cases hk)
  have HO1 : Hid (w1.ownsRow w.heap.size 9 1 (.slice (some ⟨w.heap.size, 0, none⟩) 0 n) 0 []) := hown1
  have HB1 : Hid _ := hB1
  have hzz := hB1.size
  clear hown1 hgrow1 hB1
  unfold Hid
  go_wp2_with fail
  go_loopw [3, 11] (fun fv i wr => ∃ k : Nat, k ≤ n ∧ i = .int .i64 k ∧ ∃ ps : List ByteArray, Hid (ps = outs.take k) ∧ Hid (wr.ownsRow w.heap.size 9 1 fv k (ps.map .string)) ∧ Hid (Below w.heap.size w wr)) (fun _ i _ => n - (intOf i).toNat)
  case atStart => exact ⟨0, Nat.zero_le _, rfl, [], rfl, HO1, HB1⟩
  case round =>
    obtain ⟨k, hk, rfl, ps, hps, hown, hbw⟩ := hrel
    obtain ⟨al, cl, el⟩ := owns_form hown.out
    subst el
    have hzr := hbw.out.size
    by_cases hkl : k < n
    · obtain ⟨v, hv⟩ : ∃ v, vs[k]? = some v := ⟨_, List.getElem?_eq_getElem (by have := HS.out.len; omega)⟩
      obtain ⟨o, ho⟩ : ∃ o, outs[k]? = some o := ⟨_, List.getElem?_eq_getElem (by have := HOL.out; omega)⟩
      obtain ⟨g, off, hg, hg2, hgc⟩ := (HS.out.below hbw.out).cell k v hv
      subst hg
      obtain ⟨tt, u, fid, rfl, M1, M2, M3, hC⟩ := HF.out k v o hv ho
      have hnx : Hid (ps ++ [o] = outs.take (k + 1)) := by
        unfold Hid
        rw [List.take_add_one, ho, hps.out]
        rfl
      have HC : Hid _ := hC
      have HKr : Hid (Kp b B w0 wr) := HK.out.below hbw.out hBw
      clear hC hps ho hv
      go_wp2_with fail
      refine (HC.out wr HKr.out (by omega)).mono ?_
      rintro e w5 ⟨rfl, hB5⟩
      have hown5 : Hid (w5.ownsRow w.heap.size 9 1 (.slice al k cl) k (ps.map .string)) := owns_frame hown.out (fun k k1 k2 => hB5.block k k2)
      have hb5 : Hid (Below w.heap.size w w5) := hbw.out.trans (hB5.mono hzr)
      have hz5 : w.heap.size ≤ w5.heap.size := hb5.out.size
      clear hown hbw hB5
      go_wp2_with (at_builtin; refine wpList_append_own_at _ rfl (.tmp 15) (.tmp 18) 25 rfl w.heap.size 9 i0 (.string ⟨#[]⟩) 1 16 Tryz.underlying25 hi hz0 hz1 hz2 rfl (by decide) _ _ _ rfl (hown5.out.alloc _) ⟨w5.heap.size, 0, none⟩ 1 1 [.string o] rfl rfl (cell_one_new _ _ _) (by intro u hu; simp at hu; subst hu; rfl) (by unfold maxLen; omega) (by omega) (by simp; omega) ?_; intro v1 w6 hown6 hgrow6 hnil6 hat6; refine Hid.out ?_)
      have hb6 : Hid (Below w.heap.size w w6) := (hb5.out.alloc hz5 _).grown hgrow6 (by simp; omega) (fun k hk => (hown5.out.lt k hk).1)
      have hown7 : Hid (w6.ownsRow w.heap.size 9 1 v1 (k + 1) ((ps ++ [o]).map .string)) := by
        unfold Hid
        simpa using hown6
      clear hown6 hgrow6 hnil6 hat6
      unfold Hid
      go_wp2_with fail
      go_roundw
      case rel => exact ⟨k + 1, by omega, by go_num, _, hnx, hown7, hb6⟩
      case measure => simp [intOf]; omega
    · have hpe : ps = outs := by
        have h1 := hps.out
        rw [List.take_of_length_le (by have := HOL.out; omega)] at h1
        exact h1
      subst hpe
      have hkn : k = n := by omega
      subst hkn
      obtain ⟨g, ga, gb, gc, gd⟩ : ∃ g, al = some ⟨g, 0, none⟩ ∧ g < wr.heap.size ∧ ps.length ≤ cl ∧ ∀ (j : Nat) x, ps[j]? = some x → wr.cell? ⟨g, 0 + j, none⟩ = some (.string x) := by
        have hr := hown.out
        rcases hr.2 with ⟨_, h0⟩ | ⟨g, cp, cur, hv, h1, h2, h3, _⟩
        · omega
        · cases hv
          refine ⟨g, rfl, lt_of_some h2, by have := HOL.out; omega, fun j x hx => ?_⟩
          obtain ⟨g', e1, _, _, e4⟩ := rowv_cell hr j (.string x) (by rw [List.getElem?_map, hx]; rfl)
          cases e1
          rw [Nat.zero_add]
          exact e4
      subst ga
      have HOL2 := HOL.out
      subst HOL2
      have HG : Hid _ := gd
      have HJ : Hid (listS ps = (⟨#[91]⟩ : ByteArray) ++ joinS ps ++ (⟨#[93]⟩ : ByteArray)) := rfl
      have hjz : (joinS ps).size ≤ 1000000 := by
        show (Lib.join (ps.map (·.data.toList)) [44, 32]).toArray.size ≤ 1000000
        simpa using Hz.out
      have HJ2 : Hid ((⟨(Lib.join (ps.map (·.data.toList)) (⟨#[44, 32]⟩ : ByteArray).data.toList).toArray⟩ : ByteArray) = joinS ps) := rfl
      clear gd hown HF HS
      go_wp2_with fail
      refine (Tryz.strings_Join g 0 cl ps ⟨#[44, 32]⟩ wr HG.out gb (by omega) gc (by have := Hz.out; exact Nat.le_trans this (by decide))).mono ?_
      rintro e w5 ⟨rfl, hB5⟩
      rw [HJ2.out]
      have HB5 : Hid (Below w.heap.size w w5) := hbw.out.trans (hB5.mono hzr)
      clear hB5 HJ2
      generalize joinS ps = js at *
      go_wp2_with fail
      go_ret
      exact ⟨congrArg (fun z => Ending.returned (.string z)) HJ.out.symm, HB5.out⟩
end Go.Proofs.YtdebjhdafnpfkabGreatDoor
