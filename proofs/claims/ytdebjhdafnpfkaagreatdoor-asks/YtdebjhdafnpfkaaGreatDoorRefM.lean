import Derived.Test.YtdebjhdafnpfkaaGreatDoorRefL
namespace Go.Proofs.YtdebjhdafnpfkaaGreatDoor
open Go.ChangeShapes Go.WideShapes Go.ChangeAt Go.RowKit
set_option linter.unusedVariables false

theorem row_below {w w' : World} {lo hi : Nat} {v : Value} {l : List ByteArray} (h : RowIn w lo hi 9 v (l.map .string)) (hh : hi ≤ w.heap.size) (hb : Below w.heap.size w w') : w'.ownsRow lo 9 1 v l.length (l.map .string) := by
  have := (h.frame (w' := w') (fun k _ k2 => hb.block k (by omega))).1
  simpa using this
theorem rtwice_take (l : List It) (x : It) (k : Nat) (hk : k < l.length) : rtwice (l.take (k + 1)) x = (rtwice (l.take k) x || rclash x l[k]) := by
  unfold rtwice
  rw [List.take_succ_eq_append_getElem hk]
  simp only [List.any_append, List.any_cons, List.any_nil, Bool.or_false]
theorem rtwice_hit (l : List It) (x : It) (k : Nat) (hk : k < l.length) (h : rclash x l[k] = true) : rtwice l x = true := by
  unfold rtwice
  exact List.any_eq_true.2 ⟨l[k], List.getElem_mem hk, h⟩
theorem below_drewN {B : Nat} {w w' : World} (h : Below B w w') (n : Nat) : Below B w (w'.drewN n) := by
  induction n with
  | zero => exact h
  | succ n ih => exact ih.drew

set_option maxRecDepth 100000 in
set_option maxHeartbeats 4000000 in
theorem twice_any (b : Nat) (s : ByteArray) (y : St) (it : Value) (cs : List (List Value)) (items : List It) (x : It) (pv fv : Value) (vo : Option Addr) (lo hi : Nat) (w : World) (h : RD w b s y it) (hits : Its w b it cs items) (hlen : items.length ≤ 10000)
    (hp : RowIn w lo hi 9 pv (x.path.map .string)) (hf : RowIn w lo hi 9 fv (x.full.map .string)) (hhi : hi ≤ w.heap.size) (hpl : x.path.length ≤ 4001) (hfl : x.full.length ≤ 8002) (hk : x.k = 91 ∨ x.k = 61) :
    Calls Tryz.prog 90 #[.pointer (some ⟨b, 0, none⟩), .agg #[.int .u8 x.k, pv, fv, .pointer vo, .string x.rem]] w fun e w' => e = .returned (.bool (rtwice items x)) ∧ Below w.heap.size w w' := by
  have hI := h.I
  have hlt := h.lt
  have HI : Hid (Its w b it cs items) := hits
  have Hp : Hid (RowIn w lo hi 9 pv (x.path.map .string)) := hp
  have Hf : Hid (RowIn w lo hi 9 fv (x.full.map .string)) := hf
  clear hits h hp hf
  obtain ⟨ad, cap, e⟩ := owns5_form HI.out.2.1
  subst e
  obtain ⟨ap, cp, ep⟩ := owns_form Hp.out.1
  subst ep
  obtain ⟨af, cf, ef⟩ := owns_form Hf.out.1
  subst ef
  have Hk : Hid (x.k = 91 ∨ x.k = 61) := hk
  clear hk
  simp only [List.length_map] at Hp Hf ⊢
  go_enter Tryz.func90, Tryz.ntmps90
  go_wp2_with fail
  go_loopw [5] (fun i wr => ∃ k : Nat, k ≤ items.length ∧ i = .int .i64 k ∧ Hid (rtwice (items.take k) x = false) ∧ Hid (Below (w.heap.size + 1) (w.alloc (.cells #[.int .u8 x.k, .slice ap x.path.length cp, .slice af x.full.length cf, .pointer vo, .string x.rem] 72)) wr)) (fun i _ => items.length - (intOf i).toNat)
  case atStart => exact ⟨0, Nat.zero_le _, rfl, rfl, Below.refl _ _⟩
  case round =>
    obtain ⟨k, hk, rfl, htk, hbw⟩ := hrel
    have hcx : ∀ o, wr.cell? ⟨w.heap.size, o, none⟩ = #[Value.int .u8 x.k, .slice ap x.path.length cp, .slice af x.full.length cf, .pointer vo, .string x.rem][o]? := fun o => by
      rw [hbw.out.cell (by simp)]
      simp
    have x0 := hcx 0
    have x1 := hcx 1
    have x2 := hcx 2
    have x3 := hcx 3
    have x4 := hcx 4
    simp only [List.getElem?_toArray, List.getElem?_cons_zero, List.getElem?_cons_succ] at x0 x1 x2 x3 x4
    clear hcx
    have hzr : w.heap.size < wr.heap.size := by have := hbw.out.size; simp at this; omega
    have hb0 : Hid (Below w.heap.size w wr) := ((Below.refl _ _).alloc (Nat.le_refl _) _).trans (hbw.out.mono (by omega))
    have hIr : wr.cell? ⟨b, 4, none⟩ = some (.slice ad items.length cap) := (hb0.out.cell (p := ⟨b, 4, none⟩) hlt).trans hI
    by_cases hkl : k < items.length
    · obtain ⟨g, pv', fv', vv', lo', h', hg, hbg, hgz, c0, c1, c2, c3, c4, r1, r2, l1, l2, hbl, hz, hv1, hv2⟩ := HI.out.cells k hkl
      subst hg
      have hvo : ∃ o, vv' = .pointer o := by
        by_cases e : items[k].k = 61
        · obtain ⟨q, e1, _⟩ := hv1 e
          exact ⟨_, e1⟩
        · exact ⟨_, hv2 e⟩
      obtain ⟨vo', evv⟩ := hvo
      subst evv
      obtain ⟨ap', cp', ep'⟩ := owns_form r1.1
      subst ep'
      obtain ⟨af', cf', ef'⟩ := owns_form r2.1
      subst ef'
      simp only [List.length_map] at c1 c2 r1 r2
      have Hr1 : Hid (RowIn w lo' h' 9 (.slice ap' items[k].path.length cp') (items[k].path.map .string)) := r1
      have Hr2 : Hid (RowIn w lo' h' 9 (.slice af' items[k].full.length cf') (items[k].full.map .string)) := r2
      have d0 := (hb0.out.cell (p := ⟨g, k * 5, none⟩) hgz).trans c0
      have d1 := (hb0.out.cell (p := ⟨g, k * 5 + 1, none⟩) hgz).trans c1
      have d2 := (hb0.out.cell (p := ⟨g, k * 5 + 2, none⟩) hgz).trans c2
      have d3 := (hb0.out.cell (p := ⟨g, k * 5 + 3, none⟩) hgz).trans c3
      have d4 := (hb0.out.cell (p := ⟨g, k * 5 + 4, none⟩) hgz).trans c4
      have hst : Hid (rtwice (items.take (k + 1)) x = (rtwice (items.take k) x || rclash x items[k])) := rtwice_take items x k hkl
      have hhit : Hid (rclash x items[k] = true → rtwice items x = true) := rtwice_hit items x k hkl
      clear r1 r2 c0 c1 c2 c3 c4 hv1 hv2
      have t1 : decide (k < items.length) = true := by simpa using hkl
      generalize items[k] = o at *
      rcases Hk.out with hxk | hxk
      · have Hxk : Hid (x.k = 91) := hxk
        have tx91 : ((x.k : Int) == 91) = true := by simp; omega
        have tx61 : ((x.k : Int) == 61) = false := by simp; omega
        clear hxk
        by_cases ho91 : o.k = 91
        · have Hok : Hid (o.k = 91) := ho91
          have to91 : ((o.k : Int) == 91) = true := by simp; omega
          have to61 : ((o.k : Int) == 61) = false := by simp; omega
          clear ho91
          go_wp2_with fail
          refine (starts_any lo lo' _ _ x.path o.path _ (row_below Hp.out hhi (hb0.out.alloc (by omega) _)) (row_below Hr1.out hz (hb0.out.alloc (by omega) _)) (by omega) (by omega)).mono ?_
          rintro e w5 ⟨rfl, n5, rfl⟩
          cases ha : rstarts x.path o.path
          · have hcl : Hid (rclash x o = false) := by unfold Hid; simp [rclash, Hxk.out, Hok.out, ha]
            go_wp2_with fail
            go_roundw
            case rel => exact ⟨k + 1, by omega, by go_num, by unfold Hid; rw [hst.out, htk.out, hcl.out]; rfl, (below_drewN (hbw.out.alloc (by omega) _) _)⟩
            case measure => simp [intOf]; omega
          · by_cases hle : x.path.length = o.path.length
            · have tl : ((x.path.length : Int) == o.path.length) = true := by simp; omega
              have hcl : Hid (rclash x o = true) := by unfold Hid; simp [rclash, Hxk.out, Hok.out, ha, hle]
              clear hle
              go_wp2_with fail
              go_ret
              exact ⟨ret_bool (hhit.out hcl.out).symm, below_drewN (hb0.out.alloc (by omega) _) _⟩
            · have tl : ((x.path.length : Int) == o.path.length) = false := by simp; omega
              have hcl : Hid (rclash x o = false) := by unfold Hid; simp [rclash, Hxk.out, Hok.out, ha, hle]
              clear hle
              go_wp2_with fail
              go_roundw
              case rel => exact ⟨k + 1, by omega, by go_num, by unfold Hid; rw [hst.out, htk.out, hcl.out]; rfl, (below_drewN (hbw.out.alloc (by omega) _) _)⟩
              case measure => simp [intOf]; omega
        · by_cases ho61 : o.k = 61
          · have Hok : Hid (o.k = 61) := ho61
            have to91 : ((o.k : Int) == 91) = false := by simp; omega
            have to61 : ((o.k : Int) == 61) = true := by simp; omega
            clear ho61 ho91
            go_wp2_with fail
            refine (starts_any lo lo' _ _ x.path o.full _ (row_below Hp.out hhi (hb0.out.alloc (by omega) _)) (row_below Hr2.out hz (hb0.out.alloc (by omega) _)) (by omega) (by omega)).mono ?_
            rintro e w5 ⟨rfl, n5, rfl⟩
            cases ha : rstarts x.path o.full
            · have hcl : Hid (rclash x o = false) := by unfold Hid; simp [rclash, Hxk.out, Hok.out, ha]
              go_wp2_with fail
              go_roundw
              case rel => exact ⟨k + 1, by omega, by go_num, by unfold Hid; rw [hst.out, htk.out, hcl.out]; rfl, (below_drewN (hbw.out.alloc (by omega) _) _)⟩
              case measure => simp [intOf]; omega
            · have hcl : Hid (rclash x o = true) := by unfold Hid; simp [rclash, Hxk.out, Hok.out, ha]
              go_wp2_with fail
              go_ret
              exact ⟨ret_bool (hhit.out hcl.out).symm, below_drewN (hb0.out.alloc (by omega) _) _⟩
          · have Hok : Hid (o.k ≠ 91 ∧ o.k ≠ 61) := ⟨ho91, ho61⟩
            have to91 : ((o.k : Int) == 91) = false := by simp; omega
            have to61 : ((o.k : Int) == 61) = false := by simp; omega
            clear ho61 ho91
            have hcl : Hid (rclash x o = false) := by unfold Hid; simp [rclash, Hxk.out, Hok.out]
            go_wp2_with fail
            go_roundw
            case rel => exact ⟨k + 1, by omega, by go_num, by unfold Hid; rw [hst.out, htk.out, hcl.out]; rfl, (hbw.out.alloc (by omega) _)⟩
            case measure => simp [intOf]; omega
      · have Hxk : Hid (x.k = 61) := hxk
        have tx91 : ((x.k : Int) == 91) = false := by simp; omega
        have tx61 : ((x.k : Int) == 61) = true := by simp; omega
        clear hxk
        by_cases ho91 : o.k = 91
        · have Hok : Hid (o.k = 91) := ho91
          have to91 : ((o.k : Int) == 91) = true := by simp; omega
          have to61 : ((o.k : Int) == 61) = false := by simp; omega
          clear ho91
          go_wp2_with fail
          refine (starts_any lo' lo _ _ o.path x.full _ (row_below Hr1.out hz (hb0.out.alloc (by omega) _)) (row_below Hf.out hhi (hb0.out.alloc (by omega) _)) (by omega) (by omega)).mono ?_
          rintro e w5 ⟨rfl, n5, rfl⟩
          cases ha : rstarts o.path x.full
          · have hcl : Hid (rclash x o = false) := by unfold Hid; simp [rclash, Hxk.out, Hok.out, ha]
            go_wp2_with fail
            go_roundw
            case rel => exact ⟨k + 1, by omega, by go_num, by unfold Hid; rw [hst.out, htk.out, hcl.out]; rfl, (below_drewN (hbw.out.alloc (by omega) _) _)⟩
            case measure => simp [intOf]; omega
          · have hcl : Hid (rclash x o = true) := by unfold Hid; simp [rclash, Hxk.out, Hok.out, ha]
            go_wp2_with fail
            go_ret
            exact ⟨ret_bool (hhit.out hcl.out).symm, below_drewN (hb0.out.alloc (by omega) _) _⟩
        · by_cases ho61 : o.k = 61
          · have Hok : Hid (o.k = 61) := ho61
            have to91 : ((o.k : Int) == 91) = false := by simp; omega
            have to61 : ((o.k : Int) == 61) = true := by simp; omega
            clear ho61 ho91
            go_wp2_with fail
            refine (starts_any lo lo' _ _ x.full o.full _ (row_below Hf.out hhi (hb0.out.alloc (by omega) _)) (row_below Hr2.out hz (hb0.out.alloc (by omega) _)) (by omega) (by omega)).mono ?_
            rintro e w5 ⟨rfl, n5, rfl⟩
            go_wp2_with fail
            refine (starts_any lo' lo _ _ o.full x.full _ (row_below Hr2.out hz (below_drewN (hb0.out.alloc (by omega) _) _)) (row_below Hf.out hhi (below_drewN (hb0.out.alloc (by omega) _) _)) (by omega) (by omega)).mono ?_
            rintro e w5 ⟨rfl, n6, rfl⟩
            cases ha : rstarts x.full o.full
            · cases hb : rstarts o.full x.full
              · have hcl : Hid (rclash x o = false) := by unfold Hid; simp [rclash, Hxk.out, Hok.out, ha, hb]
                go_wp2_with fail
                go_roundw
                case rel => exact ⟨k + 1, by omega, by go_num, by unfold Hid; rw [hst.out, htk.out, hcl.out]; rfl, (below_drewN (hbw.out.alloc (by omega) _) _)⟩
                case measure => simp [intOf]; omega
              · have hcl : Hid (rclash x o = true) := by unfold Hid; simp [rclash, Hxk.out, Hok.out, ha, hb]
                go_wp2_with fail
                go_ret
                exact ⟨ret_bool (hhit.out hcl.out).symm, below_drewN (hb0.out.alloc (by omega) _) _⟩
            · have hcl : Hid (rclash x o = true) := by unfold Hid; simp [rclash, Hxk.out, Hok.out, ha]
              go_wp2_with fail
              go_ret
              exact ⟨ret_bool (hhit.out hcl.out).symm, below_drewN (hb0.out.alloc (by omega) _) _⟩
          · have Hok : Hid (o.k ≠ 91 ∧ o.k ≠ 61) := ⟨ho91, ho61⟩
            have to91 : ((o.k : Int) == 91) = false := by simp; omega
            have to61 : ((o.k : Int) == 61) = false := by simp; omega
            clear ho61 ho91
            have hcl : Hid (rclash x o = false) := by unfold Hid; simp [rclash, Hxk.out, Hok.out]
            go_wp2_with fail
            go_roundw
            case rel => exact ⟨k + 1, by omega, by go_num, by unfold Hid; rw [hst.out, htk.out, hcl.out]; rfl, (hbw.out.alloc (by omega) _)⟩
            case measure => simp [intOf]; omega
    · have t1 : decide (k < items.length) = false := by simpa using hkl
      have hfin : Hid (rtwice items x = false) := by
        unfold Hid
        have := htk.out
        rw [show k = items.length by omega, List.take_length] at this
        exact this
      go_wp2_with fail
      go_ret
      exact ⟨ret_bool hfin.out.symm, hb0.out⟩
end Go.Proofs.YtdebjhdafnpfkaaGreatDoor
