import Derived.Test.YtdebjhdafnpfkabGreatDoorK35
namespace Go.Proofs.YtdebjhdafnpfkabGreatDoor
open Go.ChangeShapes Go.WideShapes Go.ChangeAt Go.RowKit
set_option linter.unusedVariables false
set_option linter.unusedSimpArgs false
def itK : List It := [k0, k1, kE, kE, k4, k5]
def spK : List It := [k0, k1, blankIt, k4, k5]
theorem spacedK : spacedOf itK = spK := by rfl
def lnK : List ByteArray := [pairS flK (roomOf [k0, k1]) k0, pairS flK (roomOf [k0, k1]) k1, otherS blankIt, otherS k4, pairS flK (roomOf [k5]) k5]
def laidK : ByteArray := ⟨#[98, 32, 32, 32, 32, 61, 32, 49, 10, 110, 97, 109, 101, 32, 61, 32, 34, 120, 34, 32, 32, 35, 32, 105, 116, 10, 10, 91, 116, 93, 10, 99, 32, 61, 32, 91, 49, 44, 32, 50, 93, 10]⟩
theorem laidK_cells : linesC lnK = Lib.byteCells laidK.data.toList := by rfl
theorem SubRow.off {w : World} {base : Nat} {e : TypeId} {g n cv off : Nat} {es : List Value} (h : w.ownsRow base e 1 (.slice (some ⟨g, 0, none⟩) n cv) n es) (ho : off ≤ n) (cap' : Nat) : SubRow w (.slice (some ⟨g, off, none⟩) (n - off) cap') (n - off) (es.drop off) := by
  refine ⟨by have := h.1; rw [List.length_drop]; omega, ⟨_, _, rfl⟩, fun k v hk => ?_⟩
  rw [List.getElem?_drop] at hk
  obtain ⟨g', e1, _, h2, h3⟩ := rowv_cell h (off + k) v hk
  cases e1
  exact ⟨_, _, g, off, rfl, rfl, h2, h3⟩
theorem EntsAt.drop {Y : Nat → Prop} {x : Option Nat} {w : World} {es : List Value} {l : List It} (h : EntsAt Y x w es l) (k : Nat) : EntsAt Y x w (es.drop k) (l.drop k) :=
  ⟨by rw [List.length_drop, List.length_drop, h.1], fun i v t h1 h2 => h.2 (k + i) v t (by rw [List.getElem?_drop] at h1; exact h1) (by rw [List.getElem?_drop] at h2; exact h2)⟩
/-- An entry of then, now. -/
theorem ent_now {b : Nat} {w2 w : World} {v : Value} {t : It} (h : EntAt (fun k => k ≠ b) none w2 v t) (hk : Kp b w2.heap.size w2 w) : (∃ S : Nat → Prop, (∀ k, S k → k < w2.heap.size ∧ k ≠ b) ∧ PEnt S w v t) ∧ EntAt (fun k => k ≠ b) none w v t := by
  obtain ⟨S, h1, h2⟩ := h
  have h3 : PEnt S w v t := h2.frame (fun k k1 => hk.block k (h1 k k1).1 (h1 k k1).2.2)
  have hz := hk.size
  exact ⟨⟨S, fun k k1 => ⟨(h1 k k1).1, (h1 k k1).2.2⟩, h3⟩, ⟨S, fun k k1 => ⟨by have := (h1 k k1).1; omega, by simp, (h1 k k1).2.2⟩, h3⟩⟩
theorem ents_now {b : Nat} {w2 w : World} {es : List Value} {l : List It} (h : EntsAt (fun k => k ≠ b) none w2 es l) (hk : Kp b w2.heap.size w2 w) : EntsAt (fun k => k ≠ b) none w es l := ⟨h.1, fun i v t h1 h2 => (ent_now (h.2 i v t h1 h2) hk).2⟩
theorem two_of {qs : List Nat} (h : qs.length = 2) : ∃ a b, qs = [a, b] := by
  match qs, h with
  | [a, b], _ => exact ⟨a, b, rfl⟩
theorem one_of {qs : List Nat} (h : qs.length = 1) : ∃ a, qs = [a] := by
  match qs, h with
  | [a], _ => exact ⟨a, rfl⟩
theorem map_at {qs : List Nat} {es : List Value} {off : Nat} (h : qs.map pairV = (es.drop off).take qs.length) {i q : Nat} (hq : qs[i]? = some q) : es[off + i]? = some (pairV q) := by
  have h1 : (qs.map pairV)[i]? = some (pairV q) := by rw [List.getElem?_map, hq]; rfl
  have hi := (List.getElem?_eq_some_iff.1 hq).1
  rw [h, List.getElem?_take, if_pos hi, List.getElem?_drop] at h1
  exact h1
set_option maxRecDepth 100000 in
set_option maxHeartbeats 1000000 in
/-- The known text is laid out as the document has it. -/
theorem lay_K (q : Nat) (w0 w : World) (hsh : SheetOk w0 w q itK) :
    Calls Tryz.prog 20 #[ptr q, .int .i64 80] w fun e w' => e = .returned (.string laidK) ∧ Below w.heap.size w w' := by
  obtain ⟨_, hq, b0, ev, es, hc, ho, he⟩ := sheet_ents hsh
  have hes : es.length = 6 := he.1
  have HO : Hid (w.ownsRow (b0 + 1) 93 1 ev es.length es) := ho
  have HE : Hid (EntsAt (fun k => k ≠ w.heap.size) none w es itK) := he
  have Hes : Hid _ := hes
  clear hsh ho he hes
  obtain ⟨ade, cape, hev⟩ := ownsS_form HO.out
  subst hev
  go_enter Tryz.func20, Tryz.ntmps20
  go_wp2_with fail
  have hB1 : Below w.heap.size w (w.alloc (.cells #[.pointer none, .slice none 0 0, .int .i64 80] 88)) := (Below.refl _ _).alloc (Nat.le_refl _) _
  have hz1 : (w.alloc (.cells #[.pointer none, .slice none 0 0, .int .i64 80] 88)).heap.size = w.heap.size + 1 := by simp
  have hpg : (w.alloc (.cells #[.pointer none, .slice none 0 0, .int .i64 80] 88)).heap[w.heap.size]? = some (.cells #[.pointer none, .slice none 0 0, .int .i64 80] 88 (0, 0)) := by
    have e : ∀ o : Obj, (w.alloc o).heap = w.heap.push o := fun o => rfl
    rw [e]
    simp
  have HO1 : Hid ((w.alloc (.cells #[.pointer none, .slice none 0 0, .int .i64 80] 88)).ownsRow (b0 + 1) 93 1 (.slice ade es.length cape) es.length es) := owns_frame HO.out (fun k k1 k2 => hB1.block k k2)
  have HE1 : Hid (EntsAt (fun k => k ≠ w.heap.size) none (w.alloc (.cells #[.pointer none, .slice none 0 0, .int .i64 80] 88)) es itK) := HE.out.below hB1
  have HB1 : Hid _ := hB1
  clear hB1 HO HE
  generalize (w.alloc (.cells #[.pointer none, .slice none 0 0, .int .i64 80] 88)) = W1 at *
  refine (spaced_any (b0 + 1) _ es itK W1 HO1.out HE1.out (by have := Hes.out; omega) (fun k hk => by show k ≠ w.heap.size; omega)).mono ?_
  rintro e w2 ⟨ev', m, es', rfl, ho2, he2, _, hB2⟩
  rw [spacedK] at he2
  have hm1 : m = 5 := by
    have h1 := ho2.1
    have h2 : es'.length = 5 := he2.1
    omega
  subst hm1
  have hz2 := hB2.size
  obtain ⟨b, hb⟩ : ∃ b, b = w.heap.size := ⟨_, rfl⟩
  have hpg2 : w2.heap[b]? = some (.cells #[.pointer none, .slice none 0 0, .int .i64 80] 88 (0, 0)) := by rw [hb, hB2.block _ (by omega)]; exact hpg
  have hBw2 : Below w.heap.size w w2 := HB1.out.trans (hB2.mono (by omega))
  have HP2 : Hid (PageAt w2.heap.size w2 b 80 (linesC (lnK.take 0))) := .inl ⟨by omega, _, hpg2, World.ownsRow_nil _ _ _ _, by simp [Value.ownBlock]⟩
  obtain ⟨g, cv, hev, hg1⟩ : ∃ g cv, ev' = .slice (some ⟨g, 0, none⟩) 5 cv ∧ 5 ≤ cv := by
    rcases ho2.2 with ⟨_, h0⟩ | ⟨g, cap, cur, hv, _, _, hc5, _⟩
    · omega
    · exact ⟨g, cap, hv, hc5⟩
  subst hev
  have HO2 : Hid (w2.ownsRow W1.heap.size 93 1 (.slice (some ⟨g, 0, none⟩) 5 cv) 5 es') := ho2
  have HE2 : Hid (EntsAt (fun k => k ≠ b) none w2 es' spK) := by rw [hb]; exact he2
  have HBw2 : Hid (Below w.heap.size w w2) := hBw2
  have hbl : b < w2.heap.size := by omega
  have hbW : b < W1.heap.size := by omega
  rw [← hb]
  have Hb : Hid _ := hb
  clear ho2 he2 hBw2 hpg2 hpg hB2 HB1 HO1 HE1 hb
  go_wp2_with fail
  go_loopw [6] (fun env wr => ∃ off : Nat, (off = 0 ∨ off = 2 ∨ off = 3 ∨ off = 4 ∨ off = 5) ∧ (∃ ad cap, env = .slice ad (5 - off) cap ∧ (off < 5 → ad = some ⟨g, off, none⟩ ∧ cap = cv - off)) ∧ Hid (PageAt w2.heap.size wr b 80 (linesC (lnK.take off))) ∧ Hid (Kp b w2.heap.size w2 wr)) (fun env _ => match env with | .slice _ n _ => n | _ => 0)
  case atStart => exact ⟨0, .inl rfl, ⟨_, _, rfl, fun _ => ⟨rfl, rfl⟩⟩, HP2, Kp.refl _ _ _⟩
  case round =>
    obtain ⟨off, hoff, ⟨ad, cap, rfl, hac⟩, hP, hK⟩ := hrel
    have hzr := hK.out.size
    rcases hoff with rfl | rfl | rfl | rfl | rfl
    · obtain ⟨rfl, rfl⟩ := hac (by omega)
      clear hac
      go_wp2_with fail
      refine (firstBlock_any _ (es'.drop 0) (spK.drop 0) (5 - 0) wr (SubRow.off (owns_kp HO2.out hK.out (by decide) hbW) (by omega) _) ((ents_now HE2.out hK.out).drop 0) (by omega)).mono ?_
      rintro e w3 ⟨bv, qs, rfl, ho3, hmap, hblk, hq1, hB3⟩
      have hq2 : qs.length = 2 := by
        rw [show blockOf (spK.drop 0) = [k0, k1] from rfl] at hblk
        have h2 := congrArg List.length hblk
        rw [List.length_take, show (spK.drop 0).length = 5 - 0 from rfl] at h2
        simp only [List.length_cons, List.length_nil] at h2
        omega
      obtain ⟨qa, qb, hqs⟩ := two_of hq2
      subst hqs
      have hz3 := hB3.size
      have HK3 : Hid (Kp b w2.heap.size w2 w3) := hK.out.below hB3 hzr
      have HM : Hid _ := hmap
      have HP3 : Hid (PageAt w2.heap.size w3 b 80 (linesC (lnK.take 0))) := hP.out.frame hB3
      have HO3 : Hid (w3.ownsRow w2.heap.size 61 1 bv [qa, qb].length ([qa, qb].map ptr)) := owns_lower ho3 hzr
      obtain ⟨a3, c3, e3⟩ := ownsS_form ho3
      subst e3
      clear ho3 hmap hblk hq1 hB3 hq2 hP
      go_wp2_with fail
      refine (layBlock_any b w2.heap.size 80 (linesC (lnK.take 0)) _ [qa, qb] [k0, k1] flK w3 HP3.out (by omega) hbl HO3.out ⟨Nat.le_refl _, Nat.le_refl _⟩ (by decide) (fun i q' t' h1 h2 => by
        match i, h1, h2 with
        | 0, h1, h2 =>
          have h3 := (ent_now (HE2.out.2 (0 + 0) _ t' (map_at (i := 0) HM.out h1) h2) HK3.out).1
          simp only [List.getElem?_cons_zero, List.getElem?_cons_succ, Option.some.injEq] at h1 h2
          subst h1 h2
          obtain ⟨S, hS, hPE⟩ := h3
          exact pl_k0 b w2.heap.size _ w3 _ S hPE hS
        | 1, h1, h2 =>
          have h3 := (ent_now (HE2.out.2 (0 + 1) _ t' (map_at (i := 1) HM.out h1) h2) HK3.out).1
          simp only [List.getElem?_cons_zero, List.getElem?_cons_succ, Option.some.injEq] at h1 h2
          subst h1 h2
          obtain ⟨S, hS, hPE⟩ := h3
          exact pl_k1 b w2.heap.size _ w3 _ S hPE hS
        | i + 2, h1, h2 => simp at h1) (by decide +kernel)).mono ?_
      rintro e w4 ⟨rfl, hP4, hK4⟩
      have e4 : linesC (lnK.take 0) ++ linesC ([k0, k1].map (pairS flK (roomOf [k0, k1]))) = linesC (lnK.take 2) := by rfl
      rw [e4] at hP4
      have HP4 : Hid _ := hP4
      have HK4 : Hid (Kp b w2.heap.size w2 w4) := HK3.out.trans hK4
      clear hP4 hK4 e4
      go_wp2_with fail
      go_roundw
      case rel => exact ⟨2, .inr (.inl rfl), ⟨_, _, rfl, fun h5 => ⟨by first | rfl | (exact absurd h5 (by omega)), by omega⟩⟩, HP4, HK4⟩
      case measure => simp
    · obtain ⟨rfl, rfl⟩ := hac (by omega)
      clear hac
      go_wp2_with fail
      refine (firstBlock_any _ (es'.drop 2) (spK.drop 2) (5 - 2) wr (SubRow.off (owns_kp HO2.out hK.out (by decide) hbW) (by omega) _) ((ents_now HE2.out hK.out).drop 2) (by omega)).mono ?_
      rintro e w3 ⟨bv, qs, rfl, ho3, hmap, hblk, hq1, hB3⟩
      have hq2 : qs.length = 0 := by
        rw [show blockOf (spK.drop 2) = [] from rfl] at hblk
        have h2 := congrArg List.length hblk
        rw [List.length_take, show (spK.drop 2).length = 5 - 2 from rfl] at h2
        simp only [List.length_nil] at h2
        omega
      have hqs : qs = [] := List.eq_nil_of_length_eq_zero hq2
      subst hqs
      have hz3 := hB3.size
      have HK3 : Hid (Kp b w2.heap.size w2 w3) := hK.out.below hB3 hzr
      have HP3 : Hid (PageAt w2.heap.size w3 b 80 (linesC (lnK.take 2))) := hP.out.frame hB3
      obtain ⟨a3, c3, e3⟩ := ownsS_form ho3
      subst e3
      obtain ⟨v, hv⟩ : ∃ v, es'[2]? = some v := ⟨_, List.getElem?_eq_getElem (by have := HO2.out.1; omega)⟩
      have HEA : Hid (EntAt (fun k => k ≠ b) none w3 v blankIt) := (ent_now (HE2.out.2 2 v blankIt hv rfl) HK3.out).2
      obtain ⟨g', hg', _, _, hcl⟩ := rowv_cell (owns_kp HO2.out HK3.out (by decide) hbW) 2 v hv
      cases hg'
      obtain ⟨tt, qv, rfl, _⟩ := ent_form HEA.out
      clear ho3 hmap hblk hq1 hB3 hq2 hP hv
      go_wp2_with fail
      refine (layOther_any b w2.heap.size 80 (linesC (lnK.take 2)) _ blankIt w3 HP3.out (by omega) HEA.out (by decide) (by decide) (by decide) (by decide +kernel)).mono ?_
      rintro e w4 ⟨rfl, hP4, hK4⟩
      have e4 : linesC (lnK.take 2) ++ Lib.strCells (otherS blankIt) ++ [.int .u8 10] = linesC (lnK.take 3) := by rfl
      rw [e4] at hP4
      have HP4 : Hid _ := hP4
      have HK4 : Hid (Kp b w2.heap.size w2 w4) := HK3.out.trans hK4
      clear hP4 hK4 e4
      go_wp2_with fail
      go_roundw
      case rel => exact ⟨3, .inr (.inr (.inl rfl)), ⟨_, _, rfl, fun h5 => ⟨by first | rfl | (exact absurd h5 (by omega)), by omega⟩⟩, HP4, HK4⟩
      case measure => simp
    · obtain ⟨rfl, rfl⟩ := hac (by omega)
      clear hac
      go_wp2_with fail
      refine (firstBlock_any _ (es'.drop 3) (spK.drop 3) (5 - 3) wr (SubRow.off (owns_kp HO2.out hK.out (by decide) hbW) (by omega) _) ((ents_now HE2.out hK.out).drop 3) (by omega)).mono ?_
      rintro e w3 ⟨bv, qs, rfl, ho3, hmap, hblk, hq1, hB3⟩
      have hq2 : qs.length = 0 := by
        rw [show blockOf (spK.drop 3) = [] from rfl] at hblk
        have h2 := congrArg List.length hblk
        rw [List.length_take, show (spK.drop 3).length = 5 - 3 from rfl] at h2
        simp only [List.length_nil] at h2
        omega
      have hqs : qs = [] := List.eq_nil_of_length_eq_zero hq2
      subst hqs
      have hz3 := hB3.size
      have HK3 : Hid (Kp b w2.heap.size w2 w3) := hK.out.below hB3 hzr
      have HP3 : Hid (PageAt w2.heap.size w3 b 80 (linesC (lnK.take 3))) := hP.out.frame hB3
      obtain ⟨a3, c3, e3⟩ := ownsS_form ho3
      subst e3
      obtain ⟨v, hv⟩ : ∃ v, es'[3]? = some v := ⟨_, List.getElem?_eq_getElem (by have := HO2.out.1; omega)⟩
      have HEA : Hid (EntAt (fun k => k ≠ b) none w3 v k4) := (ent_now (HE2.out.2 3 v k4 hv rfl) HK3.out).2
      obtain ⟨g', hg', _, _, hcl⟩ := rowv_cell (owns_kp HO2.out HK3.out (by decide) hbW) 3 v hv
      cases hg'
      obtain ⟨tt, qv, rfl, _⟩ := ent_form HEA.out
      clear ho3 hmap hblk hq1 hB3 hq2 hP hv
      go_wp2_with fail
      refine (layOther_any b w2.heap.size 80 (linesC (lnK.take 3)) _ k4 w3 HP3.out (by omega) HEA.out (by decide) (by decide) (by decide) (by decide +kernel)).mono ?_
      rintro e w4 ⟨rfl, hP4, hK4⟩
      have e4 : linesC (lnK.take 3) ++ Lib.strCells (otherS k4) ++ [.int .u8 10] = linesC (lnK.take 4) := by rfl
      rw [e4] at hP4
      have HP4 : Hid _ := hP4
      have HK4 : Hid (Kp b w2.heap.size w2 w4) := HK3.out.trans hK4
      clear hP4 hK4 e4
      go_wp2_with fail
      go_roundw
      case rel => exact ⟨4, .inr (.inr (.inr (.inl rfl))), ⟨_, _, rfl, fun h5 => ⟨by first | rfl | (exact absurd h5 (by omega)), by omega⟩⟩, HP4, HK4⟩
      case measure => simp
    · obtain ⟨rfl, rfl⟩ := hac (by omega)
      clear hac
      go_wp2_with fail
      refine (firstBlock_any _ (es'.drop 4) (spK.drop 4) (5 - 4) wr (SubRow.off (owns_kp HO2.out hK.out (by decide) hbW) (by omega) _) ((ents_now HE2.out hK.out).drop 4) (by omega)).mono ?_
      rintro e w3 ⟨bv, qs, rfl, ho3, hmap, hblk, hq1, hB3⟩
      have hq2 : qs.length = 1 := by
        rw [show blockOf (spK.drop 4) = [k5] from rfl] at hblk
        have h2 := congrArg List.length hblk
        rw [List.length_take, show (spK.drop 4).length = 5 - 4 from rfl] at h2
        simp only [List.length_cons, List.length_nil] at h2
        omega
      obtain ⟨qa, hqs⟩ := one_of hq2
      subst hqs
      have hz3 := hB3.size
      have HK3 : Hid (Kp b w2.heap.size w2 w3) := hK.out.below hB3 hzr
      have HM : Hid _ := hmap
      have HP3 : Hid (PageAt w2.heap.size w3 b 80 (linesC (lnK.take 4))) := hP.out.frame hB3
      have HO3 : Hid (w3.ownsRow w2.heap.size 61 1 bv [qa].length ([qa].map ptr)) := owns_lower ho3 hzr
      obtain ⟨a3, c3, e3⟩ := ownsS_form ho3
      subst e3
      clear ho3 hmap hblk hq1 hB3 hq2 hP
      go_wp2_with fail
      refine (layBlock_any b w2.heap.size 80 (linesC (lnK.take 4)) _ [qa] [k5] flK w3 HP3.out (by omega) hbl HO3.out ⟨Nat.le_refl _, Nat.le_refl _⟩ (by decide) (fun i q' t' h1 h2 => by
        match i, h1, h2 with
        | 0, h1, h2 =>
          have h3 := (ent_now (HE2.out.2 (4 + 0) _ t' (map_at (i := 0) HM.out h1) h2) HK3.out).1
          simp only [List.getElem?_cons_zero, List.getElem?_cons_succ, Option.some.injEq] at h1 h2
          subst h1 h2
          obtain ⟨S, hS, hPE⟩ := h3
          exact pl_k5 b w2.heap.size _ w3 S hPE hS
        | i + 1, h1, h2 => simp at h1) (by decide +kernel)).mono ?_
      rintro e w4 ⟨rfl, hP4, hK4⟩
      have e4 : linesC (lnK.take 4) ++ linesC ([k5].map (pairS flK (roomOf [k5]))) = linesC (lnK.take 5) := by rfl
      rw [e4] at hP4
      have HP4 : Hid _ := hP4
      have HK4 : Hid (Kp b w2.heap.size w2 w4) := HK3.out.trans hK4
      clear hP4 hK4 e4
      go_wp2_with fail
      go_roundw
      case rel => exact ⟨5, .inr (.inr (.inr (.inr rfl))), ⟨_, _, rfl, fun h5 => ⟨by first | rfl | (exact absurd h5 (by omega)), by omega⟩⟩, HP4, HK4⟩
      case measure => simp
    · clear hac
      have Fin : Hid (PageAt w2.heap.size wr b 80 (Lib.byteCells laidK.data.toList)) := by
        have h1 := hP.out
        rw [show lnK.take 5 = lnK from rfl, laidK_cells] at h1
        exact h1
      clear hP
      go_wp2_with fail
      refine (pstring w2.heap.size b 80 laidK.data.toList wr Fin.out (by decide)).mono ?_
      rintro e w5 ⟨rfl, hB5⟩
      have HBF : Hid (Below w.heap.size w w5) := by
        have hh := Hb.out
        refine HBw2.out.trans ⟨hB5.os.trans hK.out.os, hB5.tape.trans hK.out.tape, hB5.output.trans hK.out.output, Nat.le_trans hK.out.size hB5.size, fun k hk => ?_⟩
        rw [hB5.block k (by omega)]
        exact hK.out.block k (by omega) (by omega)
      clear hB5
      go_wp2_with fail
      go_ret
      exact ⟨rfl, HBF.out⟩
end Go.Proofs.YtdebjhdafnpfkabGreatDoor
