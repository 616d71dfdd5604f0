import Derived.Test.YtdebjhdafnpfkabGreatDoorK02
import Derived.Test.YtdebjhdafnpfkabGreatDoorK21
namespace Go.Proofs.YtdebjhdafnpfkabGreatDoor
open Go.ChangeShapes Go.WideShapes Go.ChangeAt Go.RowKit
set_option linter.unusedVariables false
set_option linter.unusedSimpArgs false
variable {Y : Nat → Prop}
/-- Entries, as they lie; x: a block that is none of theirs. -/
def EntAt (Y : Nat → Prop) (x : Option Nat) (w : World) (v : Value) (t : It) : Prop := ∃ S : Nat → Prop, (∀ k, S k → k < w.heap.size ∧ x ≠ some k ∧ Y k) ∧ PEnt S w v t
def EntsAt (Y : Nat → Prop) (x : Option Nat) (w : World) (es : List Value) (l : List It) : Prop := es.length = l.length ∧ ∀ (i : Nat) (v : Value) (t : It), es[i]? = some v → l[i]? = some t → EntAt Y x w v t
theorem EntAt.below {x : Option Nat} {w w' : World} {v : Value} {t : It} (h : EntAt Y x w v t) (hb : Below w.heap.size w w') : EntAt Y x w' v t := by
  obtain ⟨S, h1, h2⟩ := h
  have hz := hb.size
  exact ⟨S, fun k hk => by have := h1 k hk; exact ⟨by omega, this.2⟩, h2.frame (fun k hk => hb.block k (h1 k hk).1)⟩
theorem EntAt.weak {x : Option Nat} {w : World} {v : Value} {t : It} (h : EntAt Y x w v t) : EntAt Y none w v t := by
  obtain ⟨S, h1, h2⟩ := h
  exact ⟨S, fun k hk => ⟨(h1 k hk).1, by simp, (h1 k hk).2.2⟩, h2⟩
theorem EntsAt.weak {x : Option Nat} {w : World} {es : List Value} {l : List It} (h : EntsAt Y x w es l) : EntsAt Y none w es l := ⟨h.1, fun i v t h1 h2 => (h.2 i v t h1 h2).weak⟩
theorem EntsAt.below {x : Option Nat} {w w' : World} {es : List Value} {l : List It} (h : EntsAt Y x w es l) (hb : Below w.heap.size w w') : EntsAt Y x w' es l := ⟨h.1, fun i v t h1 h2 => (h.2 i v t h1 h2).below hb⟩
/-- A row was grown. -/
theorem EntAt.grown {w w1 w' : World} {v v' u : Value} {t : It} (h : EntAt Y u.ownBlock w v t) (hb : Below w.heap.size w w1) (hg : w1.grownBy w' u.ownBlock) (hat : v'.ownBlock = u.ownBlock ∨ v'.ownBlock = some w1.heap.size) : EntAt Y v'.ownBlock w' v t := by
  obtain ⟨S, h1, h2⟩ := h
  have hz := hb.size
  have hz2 := hg.size
  refine ⟨S, fun k hk => ⟨by have := (h1 k hk).1; omega, ?_, (h1 k hk).2.2⟩, h2.frame (fun k hk => ?_)⟩
  · rcases hat with e | e
    · rw [e]; exact (h1 k hk).2.1
    · rw [e]
      have := (h1 k hk).1
      simp only [ne_eq, Option.some.injEq]
      omega
  · have := (h1 k hk).1
    exact (hg.block k (by omega) (fun e => (h1 k hk).2.1 e.symm)).trans (hb.block k this)
theorem EntsAt.grown {w w1 w' : World} {v' u : Value} {es : List Value} {l : List It} (h : EntsAt Y u.ownBlock w es l) (hb : Below w.heap.size w w1) (hg : w1.grownBy w' u.ownBlock) (hat : v'.ownBlock = u.ownBlock ∨ v'.ownBlock = some w1.heap.size) : EntsAt Y v'.ownBlock w' es l :=
  ⟨h.1, fun i v t h1 h2 => (h.2 i v t h1 h2).grown hb hg hat⟩
theorem EntsAt.snoc {x : Option Nat} {w : World} {es : List Value} {l : List It} {v : Value} {t : It} (h : EntsAt Y x w es l) (hq : EntAt Y x w v t) : EntsAt Y x w (es ++ [v]) (l ++ [t]) := by
  refine ⟨by simp [h.1], fun i v' t' h1 h2 => ?_⟩
  by_cases hi : i < es.length
  · rw [List.getElem?_append_left hi] at h1
    rw [List.getElem?_append_left (by rw [← h.1]; exact hi)] at h2
    exact h.2 i v' t' h1 h2
  · rw [List.getElem?_append_right (by omega)] at h1
    rw [List.getElem?_append_right (by rw [← h.1]; omega)] at h2
    rw [h.1] at h1
    have e : i - l.length = 0 := by
      have := (List.getElem?_eq_some_iff.1 h1).1
      simp at this
      omega
    rw [e] at h1 h2
    simp only [List.getElem?_cons_zero, Option.some.injEq] at h1 h2
    subst h1 h2
    exact hq
/-- An entry of before the row. -/
theorem EntAt.old {w w' : World} {v u : Value} {t : It} {base n : Nat} {e : TypeId} {xs : List Value} (h : EntAt Y none w v t) (hb : Below w.heap.size w w') (ho : w'.ownsRow base e 1 u n xs) (hw : w.heap.size ≤ base) : EntAt Y u.ownBlock w' v t := by
  obtain ⟨S, h1, h2⟩ := h
  have hz := hb.size
  refine ⟨S, fun k hk => ⟨by have := (h1 k hk).1; omega, fun e => ?_, (h1 k hk).2.2⟩, h2.frame (fun k hk => hb.block k (h1 k hk).1)⟩
  have := (ho.lt k e).1
  have := (h1 k hk).1
  omega
theorem spaced_next (items : List It) (k : Nat) (hk : k < items.length) : spacedAt items (k + 1) = spStep (spacedAt items k) items[k] := by
  unfold spacedAt
  rw [List.take_succ_eq_append_getElem hk, List.foldl_append]
  rfl
theorem bare_new (w : World) (o : Obj) : ∀ (j : Nat) (u : Value), [Value.iface 120 (ptr w.heap.size)][j]? = some u → ((w.alloc o).alloc (.cells #[.iface 120 (ptr w.heap.size)] 93)).cell? (Addr.add ⟨w.heap.size + 1, 0, none⟩ j) = some u := by
  intro j u hj
  match j, hj with
  | 0, hj =>
    simp only [List.getElem?_cons_zero, Option.some.injEq] at hj
    subst hj
    have e : (w.alloc o).heap.size = w.heap.size + 1 := by simp
    show ((w.alloc o).alloc (.cells #[.iface 120 (ptr w.heap.size)] 93)).cell? ⟨w.heap.size + 1, 0, none⟩ = _
    rw [World.cell?_alloc_at _ _ _ _ e.symm]
    rfl
theorem blank_new {w : World} {u : Value} {base n : Nat} {e : TypeId} {xs : List Value} (ho : w.ownsRow base e 1 u n xs) (hY : Y w.heap.size) : EntAt Y u.ownBlock (w.alloc (.cells #[.string ⟨#[]⟩, .bool false] 122)) (.iface 120 (ptr w.heap.size)) blankIt := by
  refine ⟨fun k => k = w.heap.size, fun k hk => ⟨by subst hk; simp, fun e => ?_, by subst hk; exact hY⟩, w.heap.size, rfl, ?_, ?_, fun o => ?_, .inr (.inr ⟨.inl rfl, rfl⟩)⟩
  · have := (ho.lt k e).2
    omega
  · rw [World.cell?_alloc_at _ _ _ _ rfl]; rfl
  · rw [World.cell?_alloc_at _ _ _ _ rfl]; rfl
  · simp
set_option maxRecDepth 100000 in
set_option maxHeartbeats 4000000 in
theorem spaced_any (B : Nat) (ev : Value) (es : List Value) (items : List It) (w : World) (ho : w.ownsRow B 93 1 ev es.length es) (he : EntsAt Y none w es items) (hlen : es.length ≤ 4000) (hY : ∀ k, w.heap.size ≤ k → Y k) :
    Calls Tryz.prog 31 #[ev] w fun e w' => ∃ ev' m es', e = .returned ev' ∧ w'.ownsRow w.heap.size 93 1 ev' m es' ∧ EntsAt Y none w' es' (spacedOf items) ∧ m ≤ 2 * es.length ∧ Below w.heap.size w w' := by
  obtain ⟨i0, hi, hz0, hz1, hz2⟩ := info_parts info_entry
  obtain ⟨ade, cape, rfl⟩ := ownsS_form ho
  have O6 : Hid (w.ownsRow B 93 1 (.slice ade es.length cape) es.length es) := ho
  have HE : Hid (EntsAt Y none w es items) := he
  have hel : es.length ≤ items.length ∧ items.length ≤ es.length := by have := he.1; omega
  have HY : Hid (∀ k, w.heap.size ≤ k → Y k) := hY
  clear ho he hY
  go_enter Tryz.func31, Tryz.ntmps31
  go_wp2_with fail
  go_loopw [3, 4, 9] (fun kv gv i wr => ∃ k : Nat, k ≤ es.length ∧ i = .int .i64 k ∧ ∃ (m : Nat) (ks : List Value) (l : List It) (gap : Bool), gv = .bool gap ∧ Hid (spacedAt items k = (l, gap)) ∧ Hid (wr.ownsRow w.heap.size 93 1 kv m ks) ∧ m ≤ 2 * k ∧ Hid (EntsAt Y kv.ownBlock wr ks l) ∧ Hid (Below w.heap.size w wr)) (fun _ _ i _ => es.length - (intOf i).toNat)
  case atStart => exact ⟨0, Nat.zero_le _, rfl, 0, [], [], false, rfl, rfl, World.ownsRow_nil _ _ _ _, Nat.le_refl _, ⟨rfl, fun i v t h => by simp at h⟩, Below.refl _ _⟩
  case round =>
    obtain ⟨k, hk, rfl, m, ks, l, gap, rfl, hsp, hown, hkl2, hents, hbw⟩ := hrel
    obtain ⟨al, cl, el⟩ := ownsS_form hown.out
    subst el
    have hzr := hbw.out.size
    by_cases hkl : k < es.length
    · have hkl3 : k < items.length := by omega
      obtain ⟨g, hg, hg1, hg2, hgc⟩ := rowv_cell O6.out k es[k] (List.getElem?_eq_getElem hkl)
      subst hg
      have hgr := (hbw.out.cell (p := ⟨g, k, none⟩) hg2).trans hgc
      have hEA : Hid (EntAt Y none w es[k] items[k]) := HE.out.2 k es[k] items[k] (List.getElem?_eq_getElem hkl) (List.getElem?_eq_getElem hkl3)
      have hnx : Hid (spacedAt items (k + 1) = spStep (l, gap) items[k]) := by
        have := spaced_next items k hkl3
        rw [hsp.out] at this
        exact this
      clear hgc
      generalize es[k] = v at *
      generalize items[k] = t at *
      obtain ⟨S, hS, hPE⟩ := (hEA.out.below hbw.out)
      have hvf : ∃ tt q, v = .iface tt (ptr q) := by
        obtain ⟨q, _, _, _, _, hc⟩ := hPE
        rcases hc with ⟨_, rfl, _⟩ | ⟨_, rfl, _⟩ | ⟨_, rfl⟩ <;> exact ⟨_, _, rfl⟩
      obtain ⟨tt, qv, rfl⟩ := hvf
      have HPE : Hid (PEnt S wr (.iface tt (ptr qv)) t) := hPE
      clear hPE
      go_wp2_with fail
      refine (isEmpty_any S _ t _ HPE.out).mono ?_
      rintro e w1 ⟨rfl, n1, hw1⟩
      have hB1 : Hid (Below wr.heap.size wr w1) := by rw [hw1]; exact qbelow_drewN (Below.refl _ _) n1
      have hzz : w1.heap.size = wr.heap.size := by rw [hw1]; rfl
      have hown1 : Hid (w1.ownsRow w.heap.size 93 1 (.slice al m cl) m ks) := by rw [hw1]; exact hown.out
      have hents1 : Hid (EntsAt Y (Value.slice al m cl).ownBlock w1 ks l) := hents.out.below hB1.out
      have hb1 : Hid (Below w.heap.size w w1) := hbw.out.trans (hB1.out.mono hzr)
      have hEA1 : Hid (EntAt Y none w1 (.iface tt (ptr qv)) t) := (hEA.out.below hbw.out).below hB1.out
      have hz1' : w.heap.size ≤ w1.heap.size := by omega
      have hksl : Hid (ks.length = m) := by have := hown1.out.1; unfold Hid; omega
      clear hw1 hown hents hbw HPE hB1 hzz
      cases hem : emptyB t
      · cases m with
        | zero =>
          have hl0 : l = [] := by
            have h1 := hents1.out.1
            rw [hksl.out] at h1
            exact List.eq_nil_of_length_eq_zero h1.symm
          have Hnx : Hid (spacedAt items (k + 1) = (l ++ [t], false)) := by
            unfold Hid
            rw [hnx.out]
            unfold spStep
            rw [if_neg (by rw [hem]; decide), hl0]
            rfl
          clear hnx hsp hl0
          go_wp2_with (at_builtin; refine wpList_append_own_at _ rfl (.tmp 37) (.tmp 39) 79 rfl w.heap.size 93 i0 .nilIface 1 16 Tryz.underlying79 hi hz0 hz1 hz2 rfl (by decide) _ _ _ rfl (hown1.out.alloc _) ⟨w1.heap.size, 0, none⟩ 1 1 [.iface tt (ptr qv)] rfl rfl (cell_one_new _ _ _) (by intro u hu; simp at hu; subst hu; rfl) (by unfold maxLen; omega) (by omega) (by simp; omega) ?_; intro v1 w6 hown6 hgrow6 hnil6 hat6; refine Hid.out ?_)
          have hb6 : Hid (Below w.heap.size w w6) := (hb1.out.alloc (by omega) _).grown hgrow6 (by simp; omega) (fun k hk => (hown1.out.lt k hk).1)
          have hents6 : Hid (EntsAt Y v1.ownBlock w6 (ks ++ [.iface tt (ptr qv)]) (l ++ [t])) :=
            EntsAt.grown (hents1.out.snoc (EntAt.old hEA.out hb1.out hown1.out (Nat.le_refl _))) ((Below.refl _ _).alloc (Nat.le_refl _) _) hgrow6 hat6
          have hown7 : Hid (w6.ownsRow w.heap.size 93 1 v1 (0 + 1) (ks ++ [.iface tt (ptr qv)])) := hown6
          clear hown6 hgrow6 hnil6 hat6
          unfold Hid
          go_wp2_with fail
          go_roundw
          case rel => exact ⟨k + 1, by omega, by go_num, _, _, _, false, rfl, Hnx, hown7, by omega, hents6, hb6⟩
          case measure => simp [intOf]; omega
        | succ j =>
          obtain ⟨la, hla, hlen2⟩ : ∃ la, l.getLast? = some la ∧ l[j]? = some la := by
            have hll : l.length = j + 1 := by rw [← hents1.out.1]; exact hksl.out
            obtain ⟨la, hl1⟩ : ∃ la, l[j]? = some la := ⟨_, List.getElem?_eq_getElem (by omega)⟩
            have e : l.length - 1 = j := by omega
            exact ⟨la, by rw [List.getLast?_eq_getElem?, e]; exact hl1, hl1⟩
          obtain ⟨vl, hkg⟩ : ∃ vl, ks[j]? = some vl := ⟨_, List.getElem?_eq_getElem (by have := hksl.out; omega)⟩
          obtain ⟨g2, hg2e, hg21, hg22, hgc2⟩ := rowv_cell hown1.out j _ hkg
          subst hg2e
          have hLA : Hid (EntAt Y _ w1 vl la) := hents1.out.2 _ _ _ hkg hlen2
          obtain ⟨S2, hS2, hPE2⟩ := hLA.out
          have hvf : ∃ tt q, vl = .iface tt (ptr q) := by
            obtain ⟨q, _, _, _, _, hc⟩ := hPE2
            rcases hc with ⟨_, rfl, _⟩ | ⟨_, rfl, _⟩ | ⟨_, rfl⟩ <;> exact ⟨_, _, rfl⟩
          obtain ⟨tt2, qv2, rfl⟩ := hvf
          have HPE2 : Hid (PEnt S2 w1 (.iface tt2 (ptr qv2)) la) := hPE2
          clear hPE2 hLA
          cases gap
          · obtain ⟨S3, hS3, hPE3⟩ := hEA1.out
            have HPE3 : Hid (PEnt S3 w1 (.iface tt (ptr qv)) t) := hPE3
            clear hPE3
            go_wp2_with fail
            refine (parted_any S2 S3 _ _ la t _ HPE2.out HPE3.out).mono ?_
            rintro e w2 ⟨rfl, hw2⟩
            rw [hw2]
            clear hw2
            cases hpa : partedB la t
            · have Hnx : Hid (spacedAt items (k + 1) = (l ++ [t], false)) := by
                unfold Hid
                rw [hnx.out]
                unfold spStep
                rw [if_neg (by rw [hem]; decide)]
                simp only [hla]
                rw [if_neg (by rw [hpa]; simp)]
              clear hnx hsp hla hlen2 hkg
              go_wp2_with (at_builtin; refine wpList_append_own_at _ rfl (.tmp 37) (.tmp 39) 79 rfl w.heap.size 93 i0 .nilIface 1 16 Tryz.underlying79 hi hz0 hz1 hz2 rfl (by decide) _ _ _ rfl (hown1.out.alloc _) ⟨w1.heap.size, 0, none⟩ 1 1 [.iface tt (ptr qv)] rfl rfl (cell_one_new _ _ _) (by intro u hu; simp at hu; subst hu; rfl) (by unfold maxLen; omega) (by omega) (by simp; omega) ?_; intro v1 w6 hown6 hgrow6 hnil6 hat6; refine Hid.out ?_)
              have hb6 : Hid (Below w.heap.size w w6) := (hb1.out.alloc (by omega) _).grown hgrow6 (by simp; omega) (fun k hk => (hown1.out.lt k hk).1)
              have hents6 : Hid (EntsAt Y v1.ownBlock w6 (ks ++ [.iface tt (ptr qv)]) (l ++ [t])) :=
                EntsAt.grown (hents1.out.snoc (EntAt.old hEA.out hb1.out hown1.out (Nat.le_refl _))) ((Below.refl _ _).alloc (Nat.le_refl _) _) hgrow6 hat6
              have hown7 : Hid (w6.ownsRow w.heap.size 93 1 v1 ((j + 1) + 1) (ks ++ [.iface tt (ptr qv)])) := hown6
              clear hown6 hgrow6 hnil6 hat6
              unfold Hid
              go_wp2_with fail
              go_roundw
              case rel => exact ⟨k + 1, by omega, by go_num, _, _, _, false, rfl, Hnx, hown7, by omega, hents6, hb6⟩
              case measure => simp [intOf]; omega
            · have Hnx : Hid (spacedAt items (k + 1) = (l ++ [blankIt] ++ [t], false)) := by
                unfold Hid
                rw [hnx.out]
                unfold spStep
                rw [if_neg (by rw [hem]; decide)]
                simp only [hla]
                rw [if_pos (.inr hpa)]
              clear hnx hsp hla hlen2 hkg
              go_wp2_with (at_builtin; refine wpList_append_own_at _ rfl (.tmp 31) (.tmp 35) 79 rfl w.heap.size 93 i0 .nilIface 1 16 Tryz.underlying79 hi hz0 hz1 hz2 rfl (by decide) _ _ _ rfl ((hown1.out.alloc _).alloc _) ⟨w1.heap.size + 1, 0, none⟩ 1 1 [.iface 120 (ptr w1.heap.size)] rfl rfl (bare_new _ _) (by intro u hu; simp at hu; subst hu; rfl) (by unfold maxLen; omega) (by omega) (by simp; omega) ?_; intro v0 w5 hown5 hgrow5 hnil5 hat5; refine Hid.out ?_)
              have hb5 : Hid (Below w.heap.size w w5) := ((hb1.out.alloc (by omega) _).alloc (by simp; omega) _).grown hgrow5 (by simp; omega) (fun k hk => (hown1.out.lt k hk).1)
              have hents5 : Hid (EntsAt Y v0.ownBlock w5 (ks ++ [.iface 120 (ptr w1.heap.size)]) (l ++ [blankIt])) :=
                EntsAt.grown (w := w1.alloc (.cells #[.string ⟨#[]⟩, .bool false] 122)) ((hents1.out.below ((Below.refl _ _).alloc (Nat.le_refl _) _)).snoc (blank_new hown1.out (HY.out _ hz1'))) ((Below.refl _ _).alloc (Nat.le_refl _) _) hgrow5 hat5
              have hown5' : Hid (w5.ownsRow w.heap.size 93 1 v0 ((j + 1) + 1) (ks ++ [.iface 120 (ptr w1.heap.size)])) := hown5
              have hz5 : w.heap.size ≤ w5.heap.size := hb5.out.size
              clear hown5 hgrow5 hnil5 hat5 hown1 hents1 hb1
              obtain ⟨a5, c5, e5⟩ := ownsS_form hown5'.out
              subst e5
              unfold Hid
              go_wp2_with (at_builtin; refine wpList_append_own_at _ rfl (.tmp 37) (.tmp 39) 79 rfl w.heap.size 93 i0 .nilIface 1 16 Tryz.underlying79 hi hz0 hz1 hz2 rfl (by decide) _ _ _ rfl (hown5'.out.alloc _) ⟨w5.heap.size, 0, none⟩ 1 1 [.iface tt (ptr qv)] rfl rfl (cell_one_new _ _ _) (by intro u hu; simp at hu; subst hu; rfl) (by unfold maxLen; omega) (by omega) (by simp; omega) ?_; intro v1 w6 hown6 hgrow6 hnil6 hat6; refine Hid.out ?_)
              have hb6 : Hid (Below w.heap.size w w6) := (hb5.out.alloc (by omega) _).grown hgrow6 (by simp; omega) (fun k hk => (hown5'.out.lt k hk).1)
              have hents6 : Hid (EntsAt Y v1.ownBlock w6 ((ks ++ [.iface 120 (ptr w1.heap.size)]) ++ [.iface tt (ptr qv)]) ((l ++ [blankIt]) ++ [t])) :=
                EntsAt.grown (hents5.out.snoc (EntAt.old hEA.out hb5.out hown5'.out (Nat.le_refl _))) ((Below.refl _ _).alloc (Nat.le_refl _) _) hgrow6 hat6
              have hown7 : Hid (w6.ownsRow w.heap.size 93 1 v1 (((j + 1) + 1) + 1) ((ks ++ [.iface 120 (ptr w1.heap.size)]) ++ [.iface tt (ptr qv)])) := hown6
              clear hown6 hgrow6 hnil6 hat6
              unfold Hid
              go_wp2_with fail
              go_roundw
              case rel => exact ⟨k + 1, by omega, by go_num, _, _, _, false, rfl, Hnx, hown7, by omega, hents6, hb6⟩
              case measure => simp [intOf]; omega
          · have Hnx : Hid (spacedAt items (k + 1) = (l ++ [blankIt] ++ [t], false)) := by
              unfold Hid
              rw [hnx.out]
              unfold spStep
              rw [if_neg (by rw [hem]; decide)]
              simp only [hla]
              rw [if_pos (.inl trivial)]
            clear hnx hsp hla hlen2 hkg
            go_wp2_with (at_builtin; refine wpList_append_own_at _ rfl (.tmp 31) (.tmp 35) 79 rfl w.heap.size 93 i0 .nilIface 1 16 Tryz.underlying79 hi hz0 hz1 hz2 rfl (by decide) _ _ _ rfl ((hown1.out.alloc _).alloc _) ⟨w1.heap.size + 1, 0, none⟩ 1 1 [.iface 120 (ptr w1.heap.size)] rfl rfl (bare_new _ _) (by intro u hu; simp at hu; subst hu; rfl) (by unfold maxLen; omega) (by omega) (by simp; omega) ?_; intro v0 w5 hown5 hgrow5 hnil5 hat5; refine Hid.out ?_)
            have hb5 : Hid (Below w.heap.size w w5) := ((hb1.out.alloc (by omega) _).alloc (by simp; omega) _).grown hgrow5 (by simp; omega) (fun k hk => (hown1.out.lt k hk).1)
            have hents5 : Hid (EntsAt Y v0.ownBlock w5 (ks ++ [.iface 120 (ptr w1.heap.size)]) (l ++ [blankIt])) :=
              EntsAt.grown (w := w1.alloc (.cells #[.string ⟨#[]⟩, .bool false] 122)) ((hents1.out.below ((Below.refl _ _).alloc (Nat.le_refl _) _)).snoc (blank_new hown1.out (HY.out _ hz1'))) ((Below.refl _ _).alloc (Nat.le_refl _) _) hgrow5 hat5
            have hown5' : Hid (w5.ownsRow w.heap.size 93 1 v0 ((j + 1) + 1) (ks ++ [.iface 120 (ptr w1.heap.size)])) := hown5
            have hz5 : w.heap.size ≤ w5.heap.size := hb5.out.size
            clear hown5 hgrow5 hnil5 hat5 hown1 hents1 hb1
            obtain ⟨a5, c5, e5⟩ := ownsS_form hown5'.out
            subst e5
            unfold Hid
            go_wp2_with (at_builtin; refine wpList_append_own_at _ rfl (.tmp 37) (.tmp 39) 79 rfl w.heap.size 93 i0 .nilIface 1 16 Tryz.underlying79 hi hz0 hz1 hz2 rfl (by decide) _ _ _ rfl (hown5'.out.alloc _) ⟨w5.heap.size, 0, none⟩ 1 1 [.iface tt (ptr qv)] rfl rfl (cell_one_new _ _ _) (by intro u hu; simp at hu; subst hu; rfl) (by unfold maxLen; omega) (by omega) (by simp; omega) ?_; intro v1 w6 hown6 hgrow6 hnil6 hat6; refine Hid.out ?_)
            have hb6 : Hid (Below w.heap.size w w6) := (hb5.out.alloc (by omega) _).grown hgrow6 (by simp; omega) (fun k hk => (hown5'.out.lt k hk).1)
            have hents6 : Hid (EntsAt Y v1.ownBlock w6 ((ks ++ [.iface 120 (ptr w1.heap.size)]) ++ [.iface tt (ptr qv)]) ((l ++ [blankIt]) ++ [t])) :=
              EntsAt.grown (hents5.out.snoc (EntAt.old hEA.out hb5.out hown5'.out (Nat.le_refl _))) ((Below.refl _ _).alloc (Nat.le_refl _) _) hgrow6 hat6
            have hown7 : Hid (w6.ownsRow w.heap.size 93 1 v1 (((j + 1) + 1) + 1) ((ks ++ [.iface 120 (ptr w1.heap.size)]) ++ [.iface tt (ptr qv)])) := hown6
            clear hown6 hgrow6 hnil6 hat6
            unfold Hid
            go_wp2_with fail
            go_roundw
            case rel => exact ⟨k + 1, by omega, by go_num, _, _, _, false, rfl, Hnx, hown7, by omega, hents6, hb6⟩
            case measure => simp [intOf]; omega
      · have Hnx : Hid (spacedAt items (k + 1) = (l, true)) := by
          unfold Hid
          rw [hnx.out]
          unfold spStep
          rw [if_pos hem]
        clear hnx hsp
        go_wp2_with fail
        go_roundw
        case rel => exact ⟨k + 1, by omega, by go_num, m, ks, l, true, rfl, Hnx, hown1, by omega, hents1, hb1⟩
        case measure => simp [intOf]; omega
    · have Fin : Hid (EntsAt Y none wr ks (spacedOf items)) := by
        have h1 := hsp.out
        unfold spacedAt at h1
        rw [List.take_of_length_le (by omega)] at h1
        have h2 : spacedOf items = l := by unfold spacedOf; rw [h1]
        unfold Hid
        rw [h2]
        exact hents.out.weak
      clear hents hsp
      go_wp2_with fail
      go_ret
      exact ⟨_, m, ks, rfl, hown.out, Fin.out, by omega, hbw.out⟩
end Go.Proofs.YtdebjhdafnpfkabGreatDoor

namespace Go.Proofs.YtdebjhdafnpfkabGreatDoor
open Go.ChangeShapes Go.WideShapes Go.ChangeAt Go.RowKit
set_option linter.unusedVariables false
set_option linter.unusedSimpArgs false
variable {Y : Nat → Prop}
def pairV (q : Nat) : Value := .iface 61 (ptr q)
theorem takeWhile_take {α : Type} (p : α → Bool) : ∀ (l : List α) (k : Nat), (∀ i t, i < k → l[i]? = some t → p t = true) → (l.length ≤ k ∨ ∃ t, l[k]? = some t ∧ p t = false) → l.takeWhile p = l.take k
  | [], k, _, _ => by simp
  | a :: l, 0, _, h => by
    rcases h with h | ⟨t, h1, h2⟩
    · simp at h
    · simp only [List.getElem?_cons_zero, Option.some.injEq] at h1
      subst h1
      simp [List.takeWhile_cons, h2]
  | a :: l, k + 1, h, h' => by
    have ha : p a = true := h 0 a (by omega) rfl
    rw [List.takeWhile_cons, ha, List.take_succ_cons]
    simp only [if_true, List.cons.injEq, true_and]
    refine takeWhile_take p l k (fun i t hi ht => h (i + 1) t (by omega) (by simpa using ht)) ?_
    rcases h' with h' | ⟨t, h1, h2⟩
    · exact .inl (by simp at h'; omega)
    · exact .inr ⟨t, by simpa using h1, h2⟩
/-- A part of a row of entries. -/
structure SubRow (w : World) (ev : Value) (m : Nat) (es : List Value) : Prop where
  len : es.length = m
  form : ∃ ad cap, ev = .slice ad m cap
  cells : ∀ (k : Nat) (v : Value), es[k]? = some v → ∃ ad cap g off, ev = .slice ad m cap ∧ ad = some ⟨g, off, none⟩ ∧ g < w.heap.size ∧ w.cell? ⟨g, off + k, none⟩ = some v
theorem SubRow.cell {w : World} {ad : Option Addr} {m cap : Nat} {es : List Value} (h : SubRow w (.slice ad m cap) m es) (k : Nat) (v : Value) (hk : es[k]? = some v) : ∃ g off, ad = some ⟨g, off, none⟩ ∧ g < w.heap.size ∧ w.cell? ⟨g, off + k, none⟩ = some v := by
  obtain ⟨ad', cap', g, off, e, e2, h1, h2⟩ := h.cells k v hk
  cases e
  exact ⟨g, off, e2, h1, h2⟩
theorem SubRow.of {w : World} {base : Nat} {e : TypeId} {ev : Value} {m : Nat} {es : List Value} (h : w.ownsRow base e 1 ev m es) : SubRow w ev m es := by
  obtain ⟨ad, cap, rfl⟩ := ownsS_form h
  refine ⟨by have := h.1; omega, ⟨ad, cap, rfl⟩, fun k v hk => ?_⟩
  obtain ⟨g, h1, _, h2, h3⟩ := rowv_cell h k v hk
  exact ⟨ad, cap, g, 0, rfl, h1, h2, by rw [Nat.zero_add]; exact h3⟩
set_option maxRecDepth 100000 in
set_option maxHeartbeats 1000000 in
/-- The pairs that the entries begin with. -/
theorem firstBlock_any (ev : Value) (es : List Value) (l : List It) (m : Nat) (w : World) (ho : SubRow w ev m es) (he : EntsAt Y none w es l) (hlen : m ≤ 8000) :
    Calls Tryz.prog 32 #[ev] w fun e w' => ∃ (bv : Value) (qs : List Nat), e = .returned bv ∧ w'.ownsRow w.heap.size 61 1 bv qs.length (qs.map ptr) ∧ qs.map pairV = es.take qs.length ∧ blockOf l = l.take qs.length ∧ qs.length ≤ m ∧ Below w.heap.size w w' := by
  obtain ⟨i0, hi, hz0, hz1, hz2⟩ := info_parts info_ppair
  obtain ⟨ade, cape, rfl⟩ := ho.form
  have O6 : Hid (SubRow w (.slice ade m cape) m es) := ho
  have HE : Hid (EntsAt Y none w es l) := he
  have hml : es.length ≤ m ∧ m ≤ es.length := by have := ho.len; omega
  have hel : m ≤ l.length ∧ l.length ≤ m := by have := he.1; omega
  clear ho he
  have A1 := asrt_pair
  have A2 := asrt_hdr
  have A3 := asrt_bare
  go_enter Tryz.func32, Tryz.ntmps32
  go_wp2_with fail
  go_loopw [3, 10] (fun bv i wr => ∃ k : Nat, k ≤ m ∧ i = .int .i64 k ∧ ∃ qs : List Nat, Hid (qs.length = k) ∧ Hid (wr.ownsRow w.heap.size 61 1 bv k (qs.map ptr)) ∧ Hid (qs.map pairV = es.take k) ∧ Hid (∀ i t, i < k → l[i]? = some t → decide (t.k = 61) = true) ∧ Hid (Below w.heap.size w wr)) (fun _ i _ => m - (intOf i).toNat)
  case atStart => exact ⟨0, Nat.zero_le _, rfl, [], rfl, World.ownsRow_nil _ _ _ _, rfl, fun i t h => absurd h (by omega), Below.refl _ _⟩
  case round =>
    obtain ⟨k, hk, rfl, qs, hql, hown, hmap, hall, hbw⟩ := hrel
    obtain ⟨al, cl, el⟩ := ownsS_form hown.out
    subst el
    have hzr := hbw.out.size
    by_cases hkl : k < m
    · obtain ⟨v, hv⟩ : ∃ v, es[k]? = some v := ⟨_, List.getElem?_eq_getElem (by omega)⟩
      obtain ⟨t, ht⟩ : ∃ t, l[k]? = some t := ⟨_, List.getElem?_eq_getElem (by omega)⟩
      obtain ⟨g, off, hg, hg2, hgc⟩ := O6.out.cell k v hv
      subst hg
      have hgr := (hbw.out.cell (p := ⟨g, off + k, none⟩) hg2).trans hgc
      obtain ⟨S, hS, q1, s1, c0, c1, hF, hcase⟩ := HE.out.2 k v t hv ht
      have Hv : Hid _ := hv
      have Ht : Hid _ := ht
      clear hgc c0 c1 hF hv ht
      have stop : t.k ≠ 61 → Hid (blockOf l = l.take k) := fun hne => takeWhile_take _ l k hall.out (.inr ⟨t, Ht.out, by simpa using hne⟩)
      rcases hcase with ⟨hk1, rfl, c2⟩ | ⟨hk1, rfl, c2, c3, pv1, lo, hi1, c4, hlo, hpv⟩ | ⟨hk1, rfl⟩
      · have Fin : Hid (blockOf l = l.take k) := stop (by omega)
        clear hk1 c2 stop
        go_wp2_with fail
        go_ret
        have e := hql.out
        subst e
        exact ⟨_, qs, rfl, hown.out, hmap.out, Fin.out, hk, hbw.out⟩
      · have Hall : Hid (∀ i t, i < k + 1 → l[i]? = some t → decide (t.k = 61) = true) := fun i t' hi' ht' => by
          by_cases e : i = k
          · subst e
            rw [Ht.out] at ht'
            cases ht'
            simpa using hk1
          · exact hall.out i t' (by omega) ht'
        have Hmap : Hid ((qs ++ [q1]).map pairV = es.take (k + 1)) := by
          unfold Hid
          rw [List.take_add_one, Hv.out, List.map_append, hmap.out]
          rfl
        clear hk1 c2 c3 c4 hpv hlo stop hall hmap
        go_wp2_with (at_builtin; refine wpList_append_own_at _ rfl (.tmp 21) (.tmp 23) 59 rfl w.heap.size 61 i0 (.pointer none) 1 8 Tryz.underlying59 hi hz0 hz1 hz2 rfl (by decide) _ _ _ rfl (hown.out.alloc _) ⟨wr.heap.size, 0, none⟩ 1 1 [ptr q1] rfl rfl (cell_one_new _ _ _) (by intro u hu; simp at hu; subst hu; rfl) (by unfold maxLen; omega) (by omega) (by simp; omega) ?_; intro v1 w6 hown6 hgrow6 hnil6 hat6; refine Hid.out ?_)
        have hb6 : Hid (Below w.heap.size w w6) := (hbw.out.alloc hzr _).grown hgrow6 (by simp; omega) (fun k hk => (hown.out.lt k hk).1)
        have hown7 : Hid (w6.ownsRow w.heap.size 61 1 v1 (k + 1) ((qs ++ [q1]).map ptr)) := by
          unfold Hid
          simpa using hown6
        clear hown6 hgrow6 hnil6 hat6
        unfold Hid
        go_wp2_with fail
        go_roundw
        case rel => exact ⟨k + 1, by omega, by go_num, qs ++ [q1], by have := hql.out; unfold Hid; simp; omega, hown7, Hmap, Hall, hb6⟩
        case measure => simp [intOf]; omega
      · have Fin : Hid (blockOf l = l.take k) := stop (by omega)
        clear hk1 stop
        go_wp2_with fail
        go_ret
        have e := hql.out
        subst e
        exact ⟨_, qs, rfl, hown.out, hmap.out, Fin.out, hk, hbw.out⟩
    · have Fin : Hid (blockOf l = l.take k) := takeWhile_take _ l k hall.out (.inl (by omega))
      go_wp2_with fail
      go_ret
      have e := hql.out
      subst e
      exact ⟨_, qs, rfl, hown.out, hmap.out, Fin.out, hk, hbw.out⟩
end Go.Proofs.YtdebjhdafnpfkabGreatDoor
