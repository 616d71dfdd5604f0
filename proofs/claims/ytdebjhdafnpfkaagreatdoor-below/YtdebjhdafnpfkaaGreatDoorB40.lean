import Derived.Test.YtdebjhdafnpfkaaGreatDoorB38
import Derived.Test.YtdebjhdafnpfkaaGreatDoorB39
import Derived.Test.YtdebjhdafnpfkaaGreatDoorB36
import Derived.Test.YtdebjhdafnpfkaaGreatDoorB29
import Derived.Deep.RegionWith
import Derived.OwnWalk
namespace Go.Proofs.YtdebjhdafnpfkaaGreatDoor
open Go.ChangeShapes Go.WideShapes Go.ChangeAt Go.RowKit
set_option linter.unusedVariables false
set_option linter.unusedSimpArgs false
theorem str_cells (s : ByteArray) : Lib.strCells s = Lib.byteCells s.data.toList := rfl
theorem lines_cells (ls : List ByteArray) : linesC ls = Lib.byteCells (textOf ls).data.toList := by
  revert ls
  refine snoc_ind ?_ ?_
  · rfl
  · intro ls l ih
    rw [linesC_app, linesC_one, ih, text_snoc, str_cells, ByteArray.data_append, ByteArray.data_append, Array.toList_append, Array.toList_append, byteCells_app, byteCells_app, List.append_assoc]
    rfl
/-- A line of a made text, its bounds too. -/
structure LayIt (t : It) : Prop where
  kind : t.k = 61 → GoodV t.v
  zp : (jn t.path).size ≤ 100
  zr : t.rem.size ≤ 100000
theorem layR_step {fl : V → ByteArray} {wd : Nat} {l : List It} (h : blockOf l ≠ []) : layR fl wd none l = bLines fl wd (blockOf l) ++ layR fl wd none (l.drop (blockOf l).length) := by
  rw [layR_none h, layR_some]
  rfl
theorem layR_other {fl : V → ByteArray} {wd : Nat} {t : It} {r : List It} (h : t.k ≠ 61) : layR fl wd none (t :: r) = otherS t :: layR fl wd none r := by
  conv => lhs; unfold layR
  rw [if_neg h]
theorem block_mem {l : List It} {t : It} (h : t ∈ blockOf l) : t ∈ l ∧ t.k = 61 := by
  refine ⟨(List.takeWhile_sublist _).subset h, ?_⟩
  induction l with
  | nil => cases h
  | cons a l ih =>
    by_cases ha : a.k = 61
    · rw [block_cons_pos ha, List.mem_cons] at h
      rcases h with rfl | h
      · exact ha
      · exact ih h
    · rw [block_cons_neg ha] at h
      cases h
theorem bLines_len {fl : V → ByteArray} {wd : Nat} (c : List It) (h : ∀ t ∈ c, (linesC (pLines fl wd (roomOf c) t)).length ≤ 2500000) : (linesC (bLines fl wd c)).length ≤ c.length * 2500000 := by
  unfold bLines
  generalize roomOf c = R at *
  induction c with
  | nil => simp [linesC]
  | cons a c ih =>
    have h1 := h a (by simp)
    have h2 := ih (fun t ht => h t (by simp [ht]))
    rw [List.map_cons, List.flatten_cons, linesC_app, List.length_append, List.length_cons]
    omega
theorem block_take (l : List It) : blockOf l = l.take (blockOf l).length := by
  unfold blockOf
  exact List.prefix_iff_eq_take.1 (List.takeWhile_prefix _)
theorem other_size (t : It) (h1 : (jn t.path).size ≤ 100) (h2 : t.rem.size ≤ 100000) : (otherS t).size ≤ 500000 := by
  unfold otherS
  have e1 : (⟨#[91]⟩ : ByteArray).size = 1 := rfl
  have e2 : (⟨#[93]⟩ : ByteArray).size = 1 := rfl
  split
  · have := behS_size ((⟨#[91]⟩ : ByteArray) ++ jn t.path ++ (⟨#[93]⟩ : ByteArray)) t h2
    rw [ByteArray.size_append, ByteArray.size_append, ByteArray.size_append, e1, e2]
    omega
  · have := behS_size ⟨#[]⟩ t h2
    omega
set_option maxRecDepth 100000 in
set_option maxHeartbeats 2000000 in
/-- The layout of a made text. -/
theorem lay_any (T : Nat → Nat) (wd : Nat) (items : List It) (q : Nat) (w0 w : World) (hsh : SheetOk w0 w q items) (hT : TabW T w) (hG : 4 < w.heap.size) (hit : ∀ t ∈ items, LayIt t) (hlen : items.length ≤ 4000) :
    Calls Tryz.prog 43 #[ptr q, .int .i64 wd] w fun e w' => e = .returned (.string (textOf (layOf (flatV (fnT T)) wd items))) ∧ Below w.heap.size w w' ∧ (textOf (layOf (flatV (fnT T)) wd items)).size ≤ 20000000000 := by
  obtain ⟨_, hq, b0, ev, es, hc, ho, he⟩ := sheet_ents hsh
  have hes : es.length = items.length := he.1
  have HO : Hid (w.ownsRow (b0 + 1) 147 1 ev es.length es) := ho
  have HE : Hid (EntsAt (fun k => k ≠ w.heap.size) none w es items) := he
  have Hes := hid hes
  have HT := hid hT
  have HSP : Hid (∀ t ∈ spacedOf items, LayIt t) := sp_mem ⟨fun h => (by cases h), (by decide), (by decide)⟩ hit (by intro t ht; cases ht)
  have FR : Hid (layOf (flatV (fnT T)) wd items = layR (flatV (fnT T)) wd none (spacedOf items)) := layOf_layR _ _ _
  clear hsh ho he hes hT hit
  obtain ⟨ade, cape, hev⟩ := ownsS_form HO.out
  subst hev
  go_enter Tryz.func43, Tryz.ntmps43
  go_wp2_with fail
  have hB1 : Below w.heap.size w (w.alloc (.cells #[.pointer none, .slice none 0 0, .int .i64 wd] 142)) := (Below.refl _ _).alloc (Nat.le_refl _) _
  have hz1 : (w.alloc (.cells #[.pointer none, .slice none 0 0, .int .i64 wd] 142)).heap.size = w.heap.size + 1 := by simp
  have hpg : (w.alloc (.cells #[.pointer none, .slice none 0 0, .int .i64 wd] 142)).heap[w.heap.size]? = some (.cells #[.pointer none, .slice none 0 0, .int .i64 wd] 142 (0, 0)) := by
    have e : ∀ o : Obj, (w.alloc o).heap = w.heap.push o := fun o => rfl
    rw [e]
    simp
  have HO1 : Hid ((w.alloc (.cells #[.pointer none, .slice none 0 0, .int .i64 wd] 142)).ownsRow (b0 + 1) 147 1 (.slice ade es.length cape) es.length es) := owns_frame HO.out (fun k k1 k2 => hB1.block k k2)
  have HE1 : Hid (EntsAt (fun k => k ≠ w.heap.size) none (w.alloc (.cells #[.pointer none, .slice none 0 0, .int .i64 wd] 142)) es items) := HE.out.below hB1
  have HB1 := hid hB1
  clear hB1 HO HE
  generalize (w.alloc (.cells #[.pointer none, .slice none 0 0, .int .i64 wd] 142)) = W1 at *
  refine (spaced_any (b0 + 1) _ es items W1 HO1.out HE1.out (by have := Hes.out; omega) (fun k hk => by show k ≠ w.heap.size; omega)).mono ?_
  rintro e w2 ⟨ev', m, es', rfl, ho2, he2, hm2, hB2⟩
  have hz2 := hB2.size
  have hml : (spacedOf items).length = m := by
    have h1 := ho2.1
    have h2 := he2.1
    omega
  have hm8 : m ≤ 8000 := by have := Hes.out; omega
  generalize hsp : spacedOf items = sp at *
  obtain ⟨b, hb⟩ : ∃ b, b = w.heap.size := ⟨_, rfl⟩
  have hpg2 : w2.heap[b]? = some (.cells #[.pointer none, .slice none 0 0, .int .i64 wd] 142 (0, 0)) := by rw [hb, hB2.block _ (by omega)]; exact hpg
  have hBw2 : Below w.heap.size w w2 := HB1.out.trans (hB2.mono (by omega))
  have HP2 : Hid (PageAt w2.heap.size w2 b wd (linesC [])) := .inl ⟨by omega, _, hpg2, World.ownsRow_nil _ _ _ _, by simp [Value.ownBlock]⟩
  obtain ⟨av, cv, hev⟩ := ownsS_form ho2
  subst hev
  have HO2 : Hid (w2.ownsRow W1.heap.size 147 1 (.slice av m cv) m es') := ho2
  have HE2 : Hid (EntsAt (fun k => k ≠ b) none w2 es' sp) := by rw [hb]; exact he2
  have HBw2 : Hid (Below w.heap.size w w2) := hBw2
  have hbl : b < w2.heap.size := by omega
  have hbW : b < W1.heap.size := by omega
  have HTK : Hid (TabK T b w2.heap.size w2) := ⟨fun i hi => (hBw2.cell (p := ⟨4, i, none⟩) hG).trans (HT.out i hi), by omega, by omega⟩
  have HML := hid hml
  rw [← hb]
  have Hb := hid hb
  clear ho2 he2 hBw2 hpg2 hpg hB2 HB1 HO1 HE1 hb hml hsp
  have hav : Hid (0 < m → ∃ g, av = some ⟨g, 0, none⟩ ∧ m ≤ cv) := fun h0 => by
    rcases HO2.out.2 with ⟨hv, h0'⟩ | ⟨g, cap, cur, hv, _, _, hc5, _⟩
    · omega
    · cases hv
      exact ⟨g, rfl, hc5⟩
  go_wp2_with fail
  go_loopw [6] (fun env wr => ∃ off : Nat, off ≤ m ∧ (∃ ad cap, env = .slice ad (m - off) cap ∧ (off < m → ∃ g, av = some ⟨g, 0, none⟩ ∧ ad = some ⟨g, off, none⟩ ∧ cap = cv - off)) ∧ ∃ done : List ByteArray, Hid (PageAt w2.heap.size wr b wd (linesC done)) ∧ Hid (Kp b w2.heap.size w2 wr) ∧ Hid (done ++ layR (flatV (fnT T)) wd none (sp.drop off) = layR (flatV (fnT T)) wd none sp) ∧ Hid ((linesC done).length ≤ off * 2500000)) (fun env _ => match env with | .slice _ n _ => n | _ => 0)
  case atStart => exact ⟨0, Nat.zero_le _, ⟨av, cv, rfl, fun h0 => by obtain ⟨g, e, _⟩ := hav.out h0; exact ⟨g, e, e, rfl⟩⟩, [], HP2, Kp.refl _ _ _, rfl, by unfold Hid; simp [linesC]⟩
  case round =>
    obtain ⟨off, hoff, ⟨ad, cap, rfl, hac⟩, done, hP, hK, hD, hL⟩ := hrel
    have hzr := hK.out.size
    by_cases hom : off < m
    · obtain ⟨g, hav2, rfl, rfl⟩ := hac hom
      have hmc : m ≤ cv := (hav.out (by omega)).choose_spec.2
      subst hav2
      have HO3 := hid (owns_kp HO2.out hK.out (by decide) hbW)
      have hrest : 0 < m - off := by omega
      clear hac hav
      generalize hr : m - off = rr at *
      have hspl : sp.length = m := HML.out
      have HSR : Hid (SubRow wr (.slice (some ⟨g, off, none⟩) rr (cv - off)) rr (es'.drop off)) := by
        have := SubRow.off HO3.out (by omega : off ≤ m) (cv - off)
        rw [hr] at this
        exact this
      go_wp2_with fail
      refine (firstBlock_any _ (es'.drop off) (sp.drop off) rr wr HSR.out ((ents_now HE2.out hK.out).drop off) (by omega)).mono ?_
      rintro e w3 ⟨bv, qs, rfl, ho3, hmap, hblk, hq1, hB3⟩
      have hz3 := hB3.size
      have HK3 : Hid (Kp b w2.heap.size w2 w3) := hK.out.below hB3 hzr
      have HP3 : Hid (PageAt w2.heap.size w3 b wd (linesC done)) := hP.out.frame hB3
      obtain ⟨a3, c3, e3⟩ := ownsS_form ho3
      subst e3
      by_cases hq0 : qs = []
      · subst hq0
        obtain ⟨v, hv⟩ : ∃ v, es'[off]? = some v := ⟨_, List.getElem?_eq_getElem (by have := HO2.out.1; omega)⟩
        obtain ⟨t, ht⟩ : ∃ t, sp[off]? = some t := ⟨_, List.getElem?_eq_getElem (by omega)⟩
        have HEA : Hid (EntAt (fun k => k ≠ b) none w3 v t) := (ent_now (HE2.out.2 off v t hv ht) HK3.out).2
        obtain ⟨g', hg', _, _, hcl⟩ := rowv_cell (owns_kp HO2.out HK3.out (by decide) hbW) off v hv
        cases hg'
        obtain ⟨tt, qv, rfl, _⟩ := ent_form HEA.out
        have hli := HSP.out t (List.mem_of_getElem? ht)
        have hdr : sp.drop off = t :: sp.drop (off + 1) := by
          rw [List.drop_eq_getElem_cons (by omega)]
          congr 1
          rw [List.getElem?_eq_getElem (by omega)] at ht
          exact Option.some.inj ht
        have htk : t.k ≠ 61 := by
          intro e
          rw [hdr, block_cons_pos e] at hblk
          simp at hblk
        have HD2 : Hid ((done ++ [otherS t]) ++ layR (flatV (fnT T)) wd none (sp.drop (off + 1)) = layR (flatV (fnT T)) wd none sp) := by
          unfold Hid
          rw [← hD.out, hdr, layR_other htk, List.append_assoc]
          rfl
        have hos : (otherS t).size ≤ 500000 := other_size t hli.zp hli.zr
        have HL2 : Hid ((linesC (done ++ [otherS t])).length ≤ (off + 1) * 2500000) := by
          have := hL.out
          unfold Hid
          rw [linesC_app, linesC_one, List.length_append, List.length_append, Lib.strCells_length]
          simp only [List.length_cons, List.length_nil]
          omega
        have hle : (linesC done).length ≤ 100000000000000 := by have := hL.out; omega
        clear ho3 hmap hblk hq1 hB3 hP hv hdr
        go_wp2_with fail
        refine (layOther_any b w2.heap.size wd (linesC done) _ t w3 HP3.out (by omega) HEA.out htk hli.zr (by have := hli.zp; omega) hle).mono ?_
        rintro e w4 ⟨rfl, hP4, hK4⟩
        have HP4 : Hid (PageAt w2.heap.size w4 b wd (linesC (done ++ [otherS t]))) := by
          unfold Hid
          rw [linesC_app, linesC_one, ← List.append_assoc]
          exact hP4
        have HK4 : Hid (Kp b w2.heap.size w2 w4) := HK3.out.trans hK4
        clear hP4 hK4
        go_wp2_with fail
        refine ⟨⟨off + 1, by omega, ⟨_, _, by rw [show rr - 1 = m - (off + 1) by omega], fun h => ⟨g, rfl, by rw [if_neg (by omega)], by omega⟩⟩, done ++ [otherS t], HP4, HK4, HD2, HL2⟩, ?_⟩
        show rr - 1 < rr
        omega
      · have hqp : 0 < qs.length := by
          cases qs with
          | nil => exact absurd rfl hq0
          | cons => simp
        have hbk0 : blockOf (sp.drop off) ≠ [] := by
          rw [hblk]
          intro e
          have h9 := congrArg List.length e
          rw [List.length_take, List.length_drop] at h9
          simp only [List.length_nil] at h9
          omega
        have hbl2 : (blockOf (sp.drop off)).length = qs.length := by
          rw [hblk, List.length_take, List.length_drop]
          omega
        have hD2 : Hid ((done ++ bLines (flatV (fnT T)) wd (blockOf (sp.drop off))) ++ layR (flatV (fnT T)) wd none (sp.drop (off + qs.length)) = layR (flatV (fnT T)) wd none sp) := by
          unfold Hid
          rw [← hD.out, layR_step hbk0, List.append_assoc, List.drop_drop, hbl2]
        have hmem : Hid (∀ t ∈ blockOf (sp.drop off), LayIt t ∧ t.k = 61) := fun t ht => by
          have := block_mem ht
          exact ⟨HSP.out t (List.mem_of_mem_drop this.1), this.2⟩
        have hroom : roomOf (blockOf (sp.drop off)) ≤ 100 := room_le _ 100 (fun t ht => (hmem.out t ht).1.zp)
        have hB3w : w2.heap.size ≤ w3.heap.size := by omega
        have HPL : Hid (∀ (i q : Nat) (t : It), qs[i]? = some q → (blockOf (sp.drop off))[i]? = some t → PairLayG b w2.heap.size w3 wd (roomOf (blockOf (sp.drop off))) (pLines (flatV (fnT T)) wd (roomOf (blockOf (sp.drop off)))) q t) := fun i q' t' h1 h2 => by
          have hm := hmem.out t' (List.mem_of_getElem? h2)
          have h3 : es'[off + i]? = some (pairV q') := map_at hmap h1
          have h4 : sp[off + i]? = some t' := by
            rw [block_take, List.getElem?_take] at h2
            split at h2
            · rw [List.getElem?_drop] at h2; exact h2
            · cases h2
          obtain ⟨⟨S, hS, hPE⟩, _⟩ := ent_now (HE2.out.2 (off + i) _ t' h3 h4) HK3.out
          have htk : TabK T b w2.heap.size w3 := ⟨fun j hj => (HK3.out.cell (p := ⟨4, j, none⟩) HTK.out.lt HTK.out.ne).trans (HTK.out.tab j hj), HTK.out.lt, HTK.out.ne⟩
          exact pair_lay htk hPE hS hm.2 (hm.1.kind hm.2) hm.1.zp hm.1.zr hroom hB3w
        have HL2 : Hid ((linesC (done ++ bLines (flatV (fnT T)) wd (blockOf (sp.drop off)))).length ≤ (off + qs.length) * 2500000) := by
          have h5 := hL.out
          have h6 := bLines_len (fl := flatV (fnT T)) (wd := wd) (blockOf (sp.drop off)) (fun t ht => by
            obtain ⟨i, hi, rfl⟩ := List.getElem_of_mem ht
            exact (HPL.out i (qs[i]'(by omega)) _ (List.getElem?_eq_getElem _) (List.getElem?_eq_getElem _)).zf)
          unfold Hid
          rw [linesC_app, List.length_append]
          rw [hbl2] at h6
          omega
        have HO4 : Hid (w3.ownsRow w2.heap.size 94 1 (.slice a3 qs.length c3) qs.length (qs.map ptr)) := owns_lower ho3 hzr
        have hle : (linesC done).length ≤ 10000000000000 := by have := hL.out; omega
        have hqm : qs.length ≤ m - off := by omega
        have tq : ((qs.length : Int) == 0) = false := by simp; omega
        have hq0' := hid hq0
        clear ho3 hmap hblk hB3 hP hbk0 hq0 hmem
        go_wp2_with fail
        refine (layBlock_gen b w2.heap.size wd (linesC done) _ qs (blockOf (sp.drop off)) (pLines (flatV (fnT T)) wd (roomOf (blockOf (sp.drop off)))) w3 HP3.out (by omega) hbl HO4.out (by omega) (by omega) HPL.out hle).mono ?_
        rintro e w4 ⟨rfl, hP4, hK4⟩
        have HP4 : Hid (PageAt w2.heap.size w4 b wd (linesC (done ++ bLines (flatV (fnT T)) wd (blockOf (sp.drop off))))) := by
          unfold Hid
          rw [linesC_app]
          exact hP4
        have HK4 : Hid (Kp b w2.heap.size w2 w4) := HK3.out.trans hK4
        clear hP4 hK4 HPL
        go_wp2_with fail
        refine ⟨⟨off + qs.length, by omega, ⟨_, _, by rw [show rr - qs.length = m - (off + qs.length) by omega], fun h => ⟨g, rfl, by rw [if_neg (by omega)], by omega⟩⟩, _, HP4, HK4, hD2, HL2⟩, ?_⟩
        show rr - qs.length < rr
        omega
    · have eom : off = m := by omega
      have FE : Hid (done = layR (flatV (fnT T)) wd none sp) := by
        have := hD.out
        rw [List.drop_of_length_le (by have := HML.out; omega)] at this
        unfold Hid
        rw [← this]
        exact (List.append_nil _).symm
      have FX : Hid (textOf (layOf (flatV (fnT T)) wd items) = textOf done) := by unfold Hid; rw [FR.out, FE.out]
      have HSZ : Hid ((textOf (layOf (flatV (fnT T)) wd items)).size ≤ 20000000000) := by
        unfold Hid
        rw [FX.out]
        have h1 := hL.out
        rw [lines_cells, ← str_cells, Lib.strCells_length] at h1
        omega
      have hac2 : ∃ ad' n' cap', (Value.slice ad (m - off) cap) = .slice ad' n' cap' ∧ n' = 0 := ⟨_, _, _, rfl, by omega⟩
      have hmz : m - off = 0 := by omega
      rw [hmz]
      have Fin : Hid (PageAt w2.heap.size wr b wd (Lib.byteCells (textOf done).data.toList)) := by
        have h1 := hP.out
        rw [lines_cells] at h1
        exact h1
      have HBF : Hid (∀ w5, Below w2.heap.size wr w5 → Below w.heap.size w w5) := fun w5 hB5 => by
        have hh := Hb.out
        refine HBw2.out.trans ⟨hB5.os.trans hK.out.os, hB5.tape.trans hK.out.tape, hB5.output.trans hK.out.output, Nat.le_trans hK.out.size hB5.size, fun k hk => ?_⟩
        rw [hB5.block k (by omega)]
        exact hK.out.block k (by omega) (by omega)
      clear hP hac hac2 FE hD hmz
      go_wp2_with fail
      by_cases hne : (textOf done).data.toList = []
      · have Fin0 : Hid (PageAt w2.heap.size wr b wd []) := by
          have := Fin.out
          rw [hne] at this
          exact this
        have FX0 : Hid (textOf (layOf (flatV (fnT T)) wd items) = ⟨#[]⟩) := by
          unfold Hid
          rw [FX.out]
          apply ByteArray.ext
          apply Array.toList_inj.1
          rw [hne]
        refine (pstring0 w2.heap.size b wd wr Fin0.out).mono ?_
        rintro e w5 ⟨rfl, hB5⟩
        have HB5 := hid (HBF.out w5 hB5)
        clear hB5
        go_wp2_with fail
        go_ret
        exact ⟨by rw [FX0.out]; rfl, HB5.out, HSZ.out⟩
      · refine (pstring w2.heap.size b wd _ wr Fin.out hne).mono ?_
        rintro e w5 ⟨rfl, hB5⟩
        have HB5 := hid (HBF.out w5 hB5)
        clear hB5
        go_wp2_with fail
        go_ret
        exact ⟨by rw [FX.out]; rfl, HB5.out, HSZ.out⟩
end Go.Proofs.YtdebjhdafnpfkaaGreatDoor

namespace Go.Proofs.YtdebjhdafnpfkaaGreatDoor
open Go.ChangeShapes Go.WideShapes Go.ChangeAt Go.RowKit
set_option linter.unusedVariables false
set_option linter.unusedSimpArgs false
theorem format_K (d q : Nat) (w0 w : World) (hd : w.cell? ⟨d, 0, none⟩ = some (ptr q)) (hsh : SheetOk w0 w q itK) :
    Calls Tryz.prog 19 #[ptr d, .int .i64 80] w fun e w' => e = .returned (.tuple #[.string laidK, .nilIface]) ∧ Below w.heap.size w w' := by
  have HS : Hid (SheetOk w0 w q itK) := hsh
  clear hsh
  go_enter Tryz.func19, Tryz.ntmps19
  go_wp2_with fail
  refine (open_ok d q _ hd).mono ?_
  rintro e w1 ⟨rfl, hw1⟩
  rw [hw1]
  clear hw1
  go_wp2_with fail
  refine (lay_K q w0 w HS.out).mono ?_
  rintro e w2 ⟨rfl, hB⟩
  have HB : Hid _ := hB
  clear hB
  go_wp2_with fail
  go_ret2
  exact ⟨rfl, HB.out⟩
theorem pathsK : pathsOf itK = [⟨#[98]⟩, ⟨#[110, 97, 109, 101]⟩, ⟨#[116, 46, 99]⟩] := by rfl
set_option maxRecDepth 100000 in
set_option maxHeartbeats 1000000 in
theorem known_true (w : World) (m : Int) (hm : w.cell? ⟨1, 0, none⟩ = some (.int .i64 m))
    (hg : w.cell? ⟨0, 0, none⟩ = some (.iface 120 (.agg #[.pointer (some ⟨7, 28, none⟩)]))) :
    Calls Tryz.prog 17 #[] w fun e w' => e = .returned (.bool true) ∧ Below w.heap.size w w' := by
  have Hm : Hid _ := hm
  have Hg : Hid _ := hg
  clear hm hg
  go_enter Tryz.func17, Tryz.ntmps17
  go_wp2_with fail
  refine (parse_any kS _ m (by decide) Hm.out Hg.out).mono ?_
  rintro e w1 (⟨h0, d, q, rfl, d1, d2, d3, hsh, hB1⟩ | ⟨h0, _⟩)
  · rw [readK] at hsh
    have HS : Hid (SheetOk w w1 q itK) := hsh
    have HB1 : Hid (Below w.heap.size w w1) := hB1
    have hz1 := hB1.size
    have hsz := ItOk_full hsh.1
    have HZ : Hid _ := hsz
    clear hsh hB1 h0 hsz
    go_wp2_with fail
    refine (format_K d q w w1 d3 HS.out).mono ?_
    rintro e w2 ⟨rfl, hB2⟩
    have HB2 : Hid (Below w1.heap.size w1 w2) := hB2
    have hz2 := hB2.size
    have d3' := (hB2.cell (p := ⟨d, 0, none⟩) d2).trans d3
    have HS2 : Hid (SheetOk w w2 q itK) := HS.out.frame (Nat.le_refl _) hz2 (fun k _ k2 => hB2.block k k2)
    unfold laidK
    clear hB2
    go_wp2_with fail
    refine (paths_any d q itK w w2 d3' HS2.out HZ.out).mono ?_
    rintro e w3 ⟨lv, rfl, hown, hB3⟩
    rw [pathsK] at hown
    obtain ⟨al, cl, el⟩ := owns_form hown
    subst el
    obtain ⟨g, eg, _, _, hgc⟩ := rowv_cell hown 2 (.string ⟨#[116, 46, 99]⟩) rfl
    subst eg
    have HBF : Hid (Below w.heap.size w w3) := (HB1.out.trans (HB2.out.mono hz1)).trans (hB3.mono (by omega))
    clear hown hB3
    go_wp2_with fail
    go_ret
    exact ⟨rfl, HBF.out⟩
  · exact absurd readKe h0
end Go.Proofs.YtdebjhdafnpfkaaGreatDoor

namespace Go.Proofs.YtdebjhdafnpfkaaGreatDoor
open Go.ChangeShapes Go.WideShapes Go.ChangeAt Go.RowKit
set_option linter.unusedVariables false
set_option linter.unusedSimpArgs false
set_option maxHeartbeats 2000000 in
theorem kname_any (i : Nat) (c : Int) (w : World) (hi : i ≤ 1000) (h1 : -9223372036854775808 ≤ c) (h2 : c ≤ 9223372036854775807) :
    Calls Tryz.prog 45 #[.int .i64 i, .int .i64 c] w fun e w' => e = .returned (.string (nmB i c)) ∧ Below w.heap.size w w' := by
  have hl := pk_lt c 10 (by decide)
  have HP : Hid (∀ w, Calls Tryz.prog 18 #[.int .i64 c, .int .i64 10] w fun e w' => e = .returned (.int .i64 (pk c 10)) ∧ w' = w) := fun w => pick_any c 10 w h1 h2 (by decide) (by decide)
  have Fin : Hid (nmB i c = keyS.extract 0 (1 + pk c 10) ++ dgtB i) := rfl
  have HD : Hid (∀ w : World, Calls Tryz.prog 44 #[.int .i64 i] w fun e w' => e = .returned (.string (dgtB i)) ∧ Below w.heap.size w w') := digits_any i (by omega) (by omega)
  have z1 := dig_size i
  generalize pk c 10 = k at *
  rcases (by omega : k = 0 ∨ k = 1 ∨ k = 2 ∨ k = 3 ∨ k = 4 ∨ k = 5 ∨ k = 6 ∨ k = 7 ∨ k = 8 ∨ k = 9) with rfl | rfl | rfl | rfl | rfl | rfl | rfl | rfl | rfl | rfl
  all_goals (simp only [Int.cast_ofNat_Int] at HP)
  all_goals (
    go_enter Tryz.func45, Tryz.ntmps45
    go_wp2_with fail
    go_region_with (first | (go_at_call 18; refine (HP.out _).mono ?_; rintro e wp ⟨rfl, hwp⟩; rw [hwp]; clear hwp) | (go_at_call 44; refine (HD.out _).mono ?_; rintro e wd ⟨rfl, hBd⟩; have HBd : Hid _ := hBd; clear hBd))
    all_goals (go_wp2_with fail)
    all_goals go_ret
    all_goals exact ⟨congrArg (fun z => Ending.returned (.string z)) Fin.out.symm, ⟨HBd.out.os, HBd.out.tape, HBd.out.output, HBd.out.size, fun j hj => HBd.out.block j hj⟩⟩)
end Go.Proofs.YtdebjhdafnpfkaaGreatDoor
