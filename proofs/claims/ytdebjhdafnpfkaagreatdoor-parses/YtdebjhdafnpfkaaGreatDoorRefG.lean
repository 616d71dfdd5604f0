import Derived.Test.YtdebjhdafnpfkaaGreatDoorRefF
import Derived.Laws.IdiomStrings
namespace Go.Proofs.YtdebjhdafnpfkaaGreatDoor
open Go.ChangeShapes Go.WideShapes Go.ChangeAt Go.RowKit
set_option linter.unusedVariables false

theorem rmust_a (s : ByteArray) (x : St) (c : Nat) : x.a ≤ (rmust s x c).a ∧ (rmust s x c).a ≤ x.a + 1 := by
  unfold rmust
  split
  · simp
  · rw [rno_a]; omega
theorem rmust_le (s : ByteArray) (x : St) (c : Nat) (h : x.a ≤ s.size) : (rmust s x c).a ≤ s.size := by
  unfold rmust
  split
  · rename_i hr
    have := ris_lt hr
    exact this
  · rw [rno_a]; exact h

theorem conv_one (w : World) (g c : Nat) (hc : c < 256) (h : w.cell? ⟨g, 0, none⟩ = some (.int .u8 c)) :
    (convert 138 9 (.slice (some ⟨g, 0, none⟩) 1 1)).run Tryz.prog w = .ok (.string ⟨#[UInt8.ofNat c]⟩) w := by
  refine run_convert_bytes_back w 138 9 5 ⟨g, 0, none⟩ 1 [UInt8.ofNat c] Tryz.underlying138 Tryz.underlying5 Tryz.underlying9 ?_
  intro j hj
  simp only [List.length_singleton] at hj
  obtain rfl : j = 0 := by omega
  simp only [List.getElem_cons_zero]
  rw [show ((UInt8.ofNat c).toNat : Int) = c by simp; omega]
  exact h

/-- The node of a text that is being read. -/
structure TN (w : World) (q : Nat) (t : ByteArray) : Prop where
  c0 : w.cell? ⟨q, 0, none⟩ = some (.int .u8 115)
  c1 : w.cell? ⟨q, 1, none⟩ = some (.int .i64 0)
  c2 : w.cell? ⟨q, 2, none⟩ = some (.string t)
  c3 : w.cell? ⟨q, 3, none⟩ = some (.slice none 0 0)
  c4 : w.cell? ⟨q, 4, none⟩ = some (.slice none 0 0)
  F : ∀ o, w.frozen? ⟨q, o, none⟩ = false

theorem TN.of_block {w w' : World} {q : Nat} {t : ByteArray} (h : TN w q t) (hb : w'.heap[q]? = w.heap[q]?) : TN w' q t :=
  ⟨(World.cell?_of_block (w := w) hb).trans h.c0, (World.cell?_of_block (w := w) hb).trans h.c1, (World.cell?_of_block (w := w) hb).trans h.c2, (World.cell?_of_block (w := w) hb).trans h.c3,
   (World.cell?_of_block (w := w) hb).trans h.c4, fun o => (World.frozen?_of_block (w := w) hb).trans (h.F o)⟩
theorem TN.kb {b : Nat} {w w' : World} {q : Nat} {t : ByteArray} (h : TN w q t) (hk : Kb b w w') (hq : q < w.heap.size) (hb : q ≠ b) : TN w' q t := h.of_block (hk.block q hq hb)
theorem TN.drewN {w : World} {q : Nat} {t : ByteArray} (h : TN w q t) (n : Nat) : TN (w.drewN n) q t := by
  induction n with
  | zero => exact h
  | succ n ih => exact ⟨ih.c0, ih.c1, ih.c2, ih.c3, ih.c4, ih.F⟩
theorem RD.drew {w : World} {b : Nat} {s : ByteArray} {x : St} {it : Value} (h : RD w b s x it) : RD w.drew b s x it := ⟨h.S, h.A, h.E, h.P, h.I, h.F, h.lt⟩
theorem Kb.drew {b : Nat} {u v : World} (h : Kb b u v) : Kb b u v.drew := ⟨h.os, h.tape, h.output, h.size, h.block, h.froz⟩
theorem TN.drew {w : World} {q : Nat} {t : ByteArray} (h : TN w q t) : TN w.drew q t := ⟨h.c0, h.c1, h.c2, h.c3, h.c4, h.F⟩
theorem TN.put {w : World} {q : Nat} {t : ByteArray} (h : TN w q t) (u : ByteArray) : TN (w.setCell ⟨q, 2, none⟩ (.string u)) q u :=
  ⟨(cell_set_off _ _ _ _ _ (by omega)).trans h.c0, (cell_set_off _ _ _ _ _ (by omega)).trans h.c1, cell_set_same _ _ _ _ _ h.c2, (cell_set_off _ _ _ _ _ (by omega)).trans h.c3,
   (cell_set_off _ _ _ _ _ (by omega)).trans h.c4, fun o => (World.frozen?_setCell _ _ _ _).trans (h.F o)⟩
theorem TN.leaf {d lo hi : Nat} {w : World} {q : Nat} {t : ByteArray} (h : TN w q t) (h1 : lo ≤ q) (h2 : q < hi) : RVal (d + 1) lo hi w q ⟨115, 0, t, [], []⟩ := RVal.leaf h1 h2 h.c0 h.c1 h.c2 h.c3 h.c4

/-- Behind a byte that was taken and put: the world of a round's end. -/
theorem round_end {b q m : Nat} {w wr : World} {s t u : ByteArray} {x : St} {it : Value} {o : Obj} {v : Int} (h1 : RD wr b s x it) (hk : Kb b w wr) (htn : TN wr q t) (hq : q < wr.heap.size) (hb : q ≠ b) (hw : w.heap.size ≤ q) (hlt : b < w.heap.size) (hv : v = (x.a : Int) + 1) :
    RD ((((wr.drewN m).setCell ⟨b, 1, none⟩ (.int .i64 v)).setCell ⟨q, 2, none⟩ (.string u)).alloc o).drew b s ⟨x.a + 1, x.e, x.p⟩ it ∧
    Kb b w ((((wr.drewN m).setCell ⟨b, 1, none⟩ (.int .i64 v)).setCell ⟨q, 2, none⟩ (.string u)).alloc o).drew ∧
    TN ((((wr.drewN m).setCell ⟨b, 1, none⟩ (.int .i64 v)).setCell ⟨q, 2, none⟩ (.string u)).alloc o).drew q u ∧
    q < ((((wr.drewN m).setCell ⟨b, 1, none⟩ (.int .i64 v)).setCell ⟨q, 2, none⟩ (.string u)).alloc o).drew.heap.size := by
  subst hv
  have r := (h1.step m).set_other q 2 (.string u) hb
  have k := ((hk.drewN m).set 1 (.int .i64 ((x.a : Int) + 1))).set_new hlt q 2 (.string u) hw
  have tn := ((htn.drewN m).kb ((Kb.refl b _).set 1 (.int .i64 ((x.a : Int) + 1))) hq hb).put u
  have hz : q < (((wr.drewN m).setCell ⟨b, 1, none⟩ (.int .i64 ((x.a : Int) + 1))).setCell ⟨q, 2, none⟩ (.string u)).heap.size := by simpa [World.setCell] using hq
  exact ⟨(r.alloc o).drew, (k.alloc r.lt o).drew, (tn.of_block (Below.heap_alloc _ _ _ hz)).drew, Nat.lt_of_lt_of_le hz (by simp)⟩
theorem put_size (t : ByteArray) (c : Nat) : (put t c).size = t.size + 1 := by
  rw [put, ByteArray.size_append]
  rfl

set_option maxRecDepth 100000 in
set_option maxHeartbeats 4000000 in
theorem text_any (b : Nat) (s : ByteArray) (x : St) (it : Value) (w : World) (hs : s.size ≤ 4000) (ha : x.a ≤ s.size)
    (h : RD w b s x it) :
    Calls Tryz.prog 107 #[.pointer (some ⟨b, 0, none⟩)] w fun e w' => ∃ q, e = .returned (ptr q) ∧ RD w' b s (rtext s x).1 it ∧ Kb b w w' ∧ ∀ d, RVal (d + 1) w.heap.size w'.heap.size w' q (rtext s x).2 := by
  have hlt := h.lt
  have h' : Hid (RD w b s x it) := h
  clear h
  go_enter Tryz.func107, Tryz.ntmps107
  go_wp2_with fail
  refine (must_any b s x it 34 _ hs (by omega) h'.out).mono ?_
  rintro e w1 ⟨rfl, hd1, hk1⟩
  have hd1' : Hid (RD w1 b s (rmust s x 34) it) := hd1
  clear hd1
  have hma := rmust_a s x 34
  have hml := rmust_le s x 34 ha
  have hrt : Hid (rtext s x = ((rtextLoop s (s.size + 3 - x.a) (rmust s x 34) ⟨#[]⟩).1, ⟨115, 0, (rtextLoop s (s.size + 3 - x.a) (rmust s x 34) ⟨#[]⟩).2, [], []⟩)) := rfl
  generalize rmust s x 34 = x1 at *
  have hz1 := hk1.size
  have hlt1 := hd1'.out.lt
  go_wp2_with fail
  go_loopw [] (fun wr => ∃ (y : St) (t : ByteArray) (n : Nat), Hid (RD wr b s y it) ∧ Kb b w wr ∧ Hid (TN wr w1.heap.size t) ∧ w1.heap.size < wr.heap.size ∧
      Hid (rtextLoop s (s.size + 3 - x.a) x1 ⟨#[]⟩ = rtextLoop s (n + 1) y t) ∧ y.a ≤ s.size + 1 ∧ s.size + 2 ≤ y.a + n ∧ t.size ≤ y.a) (fun wr => s.size + 2 - atOf wr b)
  case atStart =>
    refine ⟨x1, ⟨#[]⟩, s.size + 2 - x.a, hd1'.out.alloc _, hk1.alloc hlt1 _, ?_, by simp, ?_, by omega, by omega, Nat.zero_le _⟩
    · exact ⟨by simp, by simp, by simp, by simp, by simp, fun o => by simp⟩
    · unfold Hid
      rw [show s.size + 3 - x.a = s.size + 2 - x.a + 1 by omega]
  case round =>
    obtain ⟨y, t, n, h1, hk, htn, hq, hrun, hya, hn, hts⟩ := hrel
    clear h' hd1' hk1
    obtain ⟨hS, hA, hE, hP, hI, hF, hltr⟩ := h1.out
    obtain ⟨c0, c1, c2, c3, c4, cF⟩ := htn.out
    have hqb : w1.heap.size ≠ b := by omega
    have hqb2 : b ≠ w1.heap.size := by omega
    have hstep : Hid (rtextLoop s (n + 1) y t = if y.e ≠ 0 then (y, t) else if s.size ≤ y.a ∨ bt s y.a < 32 then (rno y 3 y.a, t) else if bt s y.a = 34 then (⟨y.a + 1, y.e, y.p⟩, t)
      else if bt s y.a = 92 then rtextLoop s n ⟨(rescSt s ⟨y.a + 1, y.e, y.p⟩).a + 1, (rescSt s ⟨y.a + 1, y.e, y.p⟩).e, (rescSt s ⟨y.a + 1, y.e, y.p⟩).p⟩ (put t (resc s ⟨y.a + 1, y.e, y.p⟩))
      else rtextLoop s n ⟨y.a + 1, y.e, y.p⟩ (put t (bt s y.a))) := rfl
    obtain ⟨a, e, p⟩ := y
    simp only at hA hE hP hya hn hts
    by_cases he : e = 0
    · subst he
      by_cases hend : s.size ≤ a ∨ bt s a < 32
      · have hfin : Hid (rtext s x = (rno ⟨a, 0, p⟩ 3 a, ⟨115, 0, t, [], []⟩)) := by
          unfold Hid
          rw [hrt.out, hrun.out, hstep.out, if_neg (by simp), if_pos hend]
        by_cases hl : a < s.size
        · have hd : decide ((a : Int) ≥ s.size) = false := by simp; omega
          have hb32 : bt s a < 32 := by omega
          have hbt := bt_in s a hl
          have td : decide ((bt s a : Int) < 32) = true := by simp; omega
          clear hend
          go_wp2_with fail
          go_quiet (fail)
          go_wp2_with fail
          refine (no_any b s ⟨a, 0, p⟩ it 3 a _ (h1.out.drewN nq)).mono ?_
          rintro e' w4 ⟨rfl, hd4, hk4⟩
          have hd4' : Hid (RD w4 b s (rno ⟨a, 0, p⟩ 3 a) it) := hd4
          clear hd4
          go_wp2_with fail
          go_ret
          exact ⟨_, rfl, by rw [hfin.out]; exact hd4'.out, (hk.drewN nq).trans hk4, fun d => by rw [hfin.out]; exact ((htn.out.drewN nq).kb hk4 hq hqb).leaf (by omega) (Nat.lt_of_lt_of_le hq hk4.size)⟩
        · have hd : decide ((a : Int) ≥ s.size) = true := by simp; omega
          have hd2 : decide (s.size ≤ a) = true := by simp; omega
          clear hend
          go_wp2_with fail
          go_quiet (fail)
          go_wp2_with fail
          refine (no_any b s ⟨a, 0, p⟩ it 3 a _ (h1.out.drewN nq)).mono ?_
          rintro e' w4 ⟨rfl, hd4, hk4⟩
          have hd4' : Hid (RD w4 b s (rno ⟨a, 0, p⟩ 3 a) it) := hd4
          clear hd4
          go_wp2_with fail
          go_ret
          exact ⟨_, rfl, by rw [hfin.out]; exact hd4'.out, (hk.drewN nq).trans hk4, fun d => by rw [hfin.out]; exact ((htn.out.drewN nq).kb hk4 hq hqb).leaf (by omega) (Nat.lt_of_lt_of_le hq hk4.size)⟩
      · have hl : a < s.size := by omega
        have hbt := bt_in s a hl
        have hd : decide ((a : Int) ≥ s.size) = false := by simp; omega
        have hd2 : decide (s.size ≤ a) = false := by simp; omega
        have td : decide ((bt s a : Int) < 32) = false := by simp; omega
        have td2 : decide (bt s a < 32) = false := by simp; omega
        have hstep2 : Hid (rtextLoop s (n + 1) ⟨a, 0, p⟩ t = if bt s a = 34 then (⟨a + 1, 0, p⟩, t)
            else if bt s a = 92 then rtextLoop s n ⟨(rescSt s ⟨a + 1, 0, p⟩).a + 1, (rescSt s ⟨a + 1, 0, p⟩).e, (rescSt s ⟨a + 1, 0, p⟩).p⟩ (put t (resc s ⟨a + 1, 0, p⟩))
            else rtextLoop s n ⟨a + 1, 0, p⟩ (put t (bt s a))) := by
          unfold Hid
          rw [hstep.out, if_neg (by simp), if_neg hend]
        clear hstep hend
        by_cases h34 : bt s a = 34
        · have t34 : ((bt s a : Int) == 34) = true := by simp [h34]
          have hfin : Hid (rtext s x = (⟨a + 1, 0, p⟩, ⟨115, 0, t, [], []⟩)) := by
            unfold Hid
            rw [hrt.out, hrun.out, hstep2.out, if_pos h34]
          clear h34
          go_wp2_with fail
          go_quiet (fail)
          revert nq
          intro na
          go_wp2_with fail
          go_quiet (fail)
          go_wp2_with fail
          go_ret
          exact ⟨_, rfl, by rw [hfin.out]; exact h1.out.step _, (hk.drewN _).set _ _, fun d => by rw [hfin.out]; exact ((htn.out.drewN _).kb ((Kb.refl b _).set _ _) hq hqb).leaf (by omega) (by simpa [World.setCell] using hq)⟩
        · have t34 : ((bt s a : Int) == 34) = false := by simp; omega
          by_cases h92 : bt s a = 92
          · have t92 : ((bt s a : Int) == 92) = true := by simp [h92]
            have hfin0 : Hid (rtextLoop s (n + 1) ⟨a, 0, p⟩ t = rtextLoop s n ⟨(rescSt s ⟨a + 1, 0, p⟩).a + 1, (rescSt s ⟨a + 1, 0, p⟩).e, (rescSt s ⟨a + 1, 0, p⟩).p⟩ (put t (resc s ⟨a + 1, 0, p⟩))) := by
              unfold Hid
              rw [hstep2.out, if_neg h34, if_pos h92]
            have H92 : Hid (bt s a = 92) := h92
            clear h34 h92 hstep2
            cases r92 : ris s ⟨a + 1, 0, p⟩ 92
            · cases r34 : ris s ⟨a + 1, 0, p⟩ 34
              · cases r110 : ris s ⟨a + 1, 0, p⟩ 110
                · cases r116 : ris s ⟨a + 1, 0, p⟩ 116
                  · have hfin : Hid (rtextLoop s (n + 1) ⟨a, 0, p⟩ t = rtextLoop s n ⟨a + 1 + 1, 3, a + 1⟩ (put t 92)) := by
                      unfold Hid
                      rw [hfin0.out]
                      simp [rescSt, resc, r92, r34, r110, r116, rno]
                    clear hfin0
                    go_wp2_with fail
                    go_quiet (fail)
                    revert nq
                    intro na
                    go_wp2_with fail
                    go_quiet (fail)
                    go_wp2_with fail
                    refine (is_any b s ⟨a + 1, 0, p⟩ it 92 _ hs (by simp only; omega) (h1.out.step _)).mono ?_
                    rintro e' w3 ⟨rfl, q1, rfl⟩
                    go_wp2_with fail
                    refine (is_any b s ⟨a + 1, 0, p⟩ it 34 _ hs (by simp only; omega) ((h1.out.step _).drewN _)).mono ?_
                    rintro e' w3 ⟨rfl, q2, rfl⟩
                    go_wp2_with fail
                    refine (is_any b s ⟨a + 1, 0, p⟩ it 110 _ hs (by simp only; omega) ((h1.out.step _).drewN _)).mono ?_
                    rintro e' w3 ⟨rfl, q3, rfl⟩
                    go_wp2_with fail
                    refine (is_any b s ⟨a + 1, 0, p⟩ it 116 _ hs (by simp only; omega) ((h1.out.step _).drewN _)).mono ?_
                    rintro e' w3 ⟨rfl, q4, rfl⟩
                    go_wp2_with fail
                    refine (no_any b s ⟨a + 1, 0, p⟩ it 3 (a + 1) _ ((h1.out.step _).drewN _)).mono ?_
                    rintro e' w4 ⟨rfl, hd4, hk4⟩
                    have hd4' : Hid (RD w4 b s ⟨a + 1, 3, a + 1⟩ it) := hd4
                    clear hd4
                    have hkw4 : Kb b w w4 := (((hk.drewN _).set _ _).drewN _).trans hk4
                    have htn4 : Hid (TN w4 w1.heap.size t) := (((htn.out.drewN _).kb ((Kb.refl b _).set _ _) hq hqb).drewN _).kb hk4 (by simpa [World.setCell] using hq) hqb
                    have hq4 : w1.heap.size < w4.heap.size := Nat.lt_of_lt_of_le (by simpa [World.setCell] using hq) hk4.size
                    obtain ⟨hS4, hA4, hE4, hP4, hI4, hF4, hltr4⟩ := hd4'.out
                    obtain ⟨d0, d1, d2, d3, d4, dF⟩ := htn4.out
                    simp only at hA4 hE4 hP4
                    have hcv := fun W => conv_one W w4.heap.size (bt s a) (bt_lt s a)
                    go_wp2_with fail
                    go_region
                    obtain ⟨m, rfl⟩ : ∃ m, n = m + 1 := ⟨n - 1, by omega⟩
                    have HE : Hid _ := round_end (u := t ++ ⟨#[UInt8.ofNat (bt s a)]⟩) (o := .cells #[.int .u8 (bt s a)] 5) (m := 0) (v := (a : Int) + 1 + 1) hd4'.out hkw4 htn4.out hq4 hqb hz1 hlt (by simp)
                    go_wp2_with fail
                    go_roundw
                    case rel => exact ⟨⟨a + 1 + 1, 3, a + 1⟩, put t (bt s a), m, HE.out.1, HE.out.2.1, HE.out.2.2.1, HE.out.2.2.2, hrun.out.trans (by rw [H92.out]; exact hfin.out), by simp only; omega, by simp only; omega, by rw [put_size]; simp only; omega⟩
                    case measure => rw [show atOf (((w4.setCell ⟨b, 1, none⟩ (.int .i64 ((a : Int) + 1 + 1))).setCell ⟨w1.heap.size, 2, none⟩ (.string (t ++ ⟨#[UInt8.ofNat (bt s a)]⟩))).alloc (.cells #[.int .u8 (bt s a)] 5)).drew b = a + 1 + 1 from HE.out.1.atOf, h1.out.atOf]; simp only; omega
                  · have hfin : Hid (rtextLoop s (n + 1) ⟨a, 0, p⟩ t = rtextLoop s n ⟨a + 1 + 1, 0, p⟩ (put t 9)) := by
                      unfold Hid
                      rw [hfin0.out]
                      simp [rescSt, resc, r92, r34, r110, r116]
                    have hlt3 : a + 1 < s.size := ris_lt r116
                    clear hfin0
                    have hcv := fun W => conv_one W wr.heap.size 9 (by omega)
                    go_wp2_with fail
                    go_quiet (fail)
                    revert nq
                    intro na
                    go_wp2_with fail
                    go_quiet (fail)
                    go_wp2_with fail
                    refine (is_any b s ⟨a + 1, 0, p⟩ it 92 _ hs (by simp only; omega) (h1.out.step _)).mono ?_
                    rintro e' w3 ⟨rfl, q1, rfl⟩
                    go_wp2_with fail
                    refine (is_any b s ⟨a + 1, 0, p⟩ it 34 _ hs (by simp only; omega) ((h1.out.step _).drewN _)).mono ?_
                    rintro e' w3 ⟨rfl, q2, rfl⟩
                    go_wp2_with fail
                    refine (is_any b s ⟨a + 1, 0, p⟩ it 110 _ hs (by simp only; omega) ((h1.out.step _).drewN _)).mono ?_
                    rintro e' w3 ⟨rfl, q3, rfl⟩
                    go_wp2_with fail
                    refine (is_any b s ⟨a + 1, 0, p⟩ it 116 _ hs (by simp only; omega) ((h1.out.step _).drewN _)).mono ?_
                    rintro e' w3 ⟨rfl, q4, rfl⟩
                    go_wp2_with fail
                    go_region
                    obtain ⟨m, rfl⟩ : ∃ m, n = m + 1 := ⟨n - 1, by omega⟩
                    have HE : Hid _ := round_end (u := t ++ ⟨#[9]⟩) (o := .cells #[.int .u8 9] 5) (m := q1 + q2 + q3 + q4) (v := (a : Int) + 1 + 1) (h1.out.step (na + nq)) ((hk.drewN (na + nq)).set _ _) ((htn.out.drewN _).kb ((Kb.refl b _).set _ _) hq hqb) (by simpa [World.setCell] using hq) hqb hz1 hlt (by simp)
                    go_wp2_with fail
                    go_roundw
                    case rel => exact ⟨⟨a + 1 + 1, 0, p⟩, put t 9, m, HE.out.1, HE.out.2.1, HE.out.2.2.1, HE.out.2.2.2, hrun.out.trans hfin.out, by simp only; omega, by simp only; omega, by rw [put_size]; simp only; omega⟩
                    case measure => rw [show atOf _ b = _ from HE.out.1.atOf, h1.out.atOf]; simp only; omega
                · have hfin : Hid (rtextLoop s (n + 1) ⟨a, 0, p⟩ t = rtextLoop s n ⟨a + 1 + 1, 0, p⟩ (put t 10)) := by
                    unfold Hid
                    rw [hfin0.out]
                    simp [rescSt, resc, r92, r34, r110]
                  have hlt3 : a + 1 < s.size := ris_lt r110
                  clear hfin0
                  have hcv := fun W => conv_one W wr.heap.size 10 (by omega)
                  go_wp2_with fail
                  go_quiet (fail)
                  revert nq
                  intro na
                  go_wp2_with fail
                  go_quiet (fail)
                  go_wp2_with fail
                  refine (is_any b s ⟨a + 1, 0, p⟩ it 92 _ hs (by simp only; omega) (h1.out.step _)).mono ?_
                  rintro e' w3 ⟨rfl, q1, rfl⟩
                  go_wp2_with fail
                  refine (is_any b s ⟨a + 1, 0, p⟩ it 34 _ hs (by simp only; omega) ((h1.out.step _).drewN _)).mono ?_
                  rintro e' w3 ⟨rfl, q2, rfl⟩
                  go_wp2_with fail
                  refine (is_any b s ⟨a + 1, 0, p⟩ it 110 _ hs (by simp only; omega) ((h1.out.step _).drewN _)).mono ?_
                  rintro e' w3 ⟨rfl, q3, rfl⟩
                  go_wp2_with fail
                  refine (is_any b s ⟨a + 1, 0, p⟩ it 116 _ hs (by simp only; omega) ((h1.out.step _).drewN _)).mono ?_
                  rintro e' w3 ⟨rfl, q4, rfl⟩
                  go_wp2_with fail
                  go_region
                  obtain ⟨m, rfl⟩ : ∃ m, n = m + 1 := ⟨n - 1, by omega⟩
                  have HE : Hid _ := round_end (u := t ++ ⟨#[10]⟩) (o := .cells #[.int .u8 10] 5) (m := q1 + q2 + q3 + q4) (v := (a : Int) + 1 + 1) (h1.out.step (na + nq)) ((hk.drewN (na + nq)).set _ _) ((htn.out.drewN _).kb ((Kb.refl b _).set _ _) hq hqb) (by simpa [World.setCell] using hq) hqb hz1 hlt (by simp)
                  go_wp2_with fail
                  go_roundw
                  case rel => exact ⟨⟨a + 1 + 1, 0, p⟩, put t 10, m, HE.out.1, HE.out.2.1, HE.out.2.2.1, HE.out.2.2.2, hrun.out.trans hfin.out, by simp only; omega, by simp only; omega, by rw [put_size]; simp only; omega⟩
                  case measure => rw [show atOf _ b = _ from HE.out.1.atOf, h1.out.atOf]; simp only; omega
              · have hfin : Hid (rtextLoop s (n + 1) ⟨a, 0, p⟩ t = rtextLoop s n ⟨a + 1 + 1, 0, p⟩ (put t 34)) := by
                  unfold Hid
                  rw [hfin0.out]
                  simp [rescSt, resc, r92, r34]
                have hlt3 : a + 1 < s.size := ris_lt r34
                clear hfin0
                have hcv := fun W => conv_one W wr.heap.size 34 (by omega)
                go_wp2_with fail
                go_quiet (fail)
                revert nq
                intro na
                go_wp2_with fail
                go_quiet (fail)
                go_wp2_with fail
                refine (is_any b s ⟨a + 1, 0, p⟩ it 92 _ hs (by simp only; omega) (h1.out.step _)).mono ?_
                rintro e' w3 ⟨rfl, q1, rfl⟩
                go_wp2_with fail
                refine (is_any b s ⟨a + 1, 0, p⟩ it 34 _ hs (by simp only; omega) ((h1.out.step _).drewN _)).mono ?_
                rintro e' w3 ⟨rfl, q2, rfl⟩
                go_wp2_with fail
                refine (is_any b s ⟨a + 1, 0, p⟩ it 110 _ hs (by simp only; omega) ((h1.out.step _).drewN _)).mono ?_
                rintro e' w3 ⟨rfl, q3, rfl⟩
                go_wp2_with fail
                refine (is_any b s ⟨a + 1, 0, p⟩ it 116 _ hs (by simp only; omega) ((h1.out.step _).drewN _)).mono ?_
                rintro e' w3 ⟨rfl, q4, rfl⟩
                go_wp2_with fail
                go_region
                obtain ⟨m, rfl⟩ : ∃ m, n = m + 1 := ⟨n - 1, by omega⟩
                have HE : Hid _ := round_end (u := t ++ ⟨#[34]⟩) (o := .cells #[.int .u8 34] 5) (m := q1 + q2 + q3 + q4) (v := (a : Int) + 1 + 1) (h1.out.step (na + nq)) ((hk.drewN (na + nq)).set _ _) ((htn.out.drewN _).kb ((Kb.refl b _).set _ _) hq hqb) (by simpa [World.setCell] using hq) hqb hz1 hlt (by simp)
                go_wp2_with fail
                go_roundw
                case rel => exact ⟨⟨a + 1 + 1, 0, p⟩, put t 34, m, HE.out.1, HE.out.2.1, HE.out.2.2.1, HE.out.2.2.2, hrun.out.trans hfin.out, by simp only; omega, by simp only; omega, by rw [put_size]; simp only; omega⟩
                case measure => rw [show atOf _ b = _ from HE.out.1.atOf, h1.out.atOf]; simp only; omega
            · have hfin : Hid (rtextLoop s (n + 1) ⟨a, 0, p⟩ t = rtextLoop s n ⟨a + 1 + 1, 0, p⟩ (put t 92)) := by
                unfold Hid
                rw [hfin0.out]
                simp [rescSt, resc, r92]
              have hlt3 : a + 1 < s.size := ris_lt r92
              clear hfin0
              have hcv := fun W => conv_one W wr.heap.size (bt s a) (bt_lt s a)
              go_wp2_with fail
              go_quiet (fail)
              revert nq
              intro na
              go_wp2_with fail
              go_quiet (fail)
              go_wp2_with fail
              refine (is_any b s ⟨a + 1, 0, p⟩ it 92 _ hs (by simp only; omega) (h1.out.step _)).mono ?_
              rintro e' w3 ⟨rfl, q1, rfl⟩
              go_wp2_with fail
              refine (is_any b s ⟨a + 1, 0, p⟩ it 34 _ hs (by simp only; omega) ((h1.out.step _).drewN _)).mono ?_
              rintro e' w3 ⟨rfl, q2, rfl⟩
              go_wp2_with fail
              refine (is_any b s ⟨a + 1, 0, p⟩ it 110 _ hs (by simp only; omega) ((h1.out.step _).drewN _)).mono ?_
              rintro e' w3 ⟨rfl, q3, rfl⟩
              go_wp2_with fail
              refine (is_any b s ⟨a + 1, 0, p⟩ it 116 _ hs (by simp only; omega) ((h1.out.step _).drewN _)).mono ?_
              rintro e' w3 ⟨rfl, q4, rfl⟩
              go_wp2_with fail
              go_region
              obtain ⟨m, rfl⟩ : ∃ m, n = m + 1 := ⟨n - 1, by omega⟩
              have HE : Hid _ := round_end (u := t ++ ⟨#[UInt8.ofNat (bt s a)]⟩) (o := .cells #[.int .u8 (bt s a)] 5) (m := q1 + q2 + q3 + q4) (v := (a : Int) + 1 + 1) (h1.out.step (na + nq)) ((hk.drewN (na + nq)).set _ _) ((htn.out.drewN _).kb ((Kb.refl b _).set _ _) hq hqb) (by simpa [World.setCell] using hq) hqb hz1 hlt (by simp)
              go_wp2_with fail
              go_roundw
              case rel => exact ⟨⟨a + 1 + 1, 0, p⟩, put t (bt s a), m, HE.out.1, HE.out.2.1, HE.out.2.2.1, HE.out.2.2.2, hrun.out.trans (by rw [H92.out]; exact hfin.out), by simp only; omega, by simp only; omega, by rw [put_size]; simp only; omega⟩
              case measure => rw [show atOf _ b = _ from HE.out.1.atOf, h1.out.atOf]; simp only; omega
          · have t92 : ((bt s a : Int) == 92) = false := by simp; omega
            have hfin : Hid (rtextLoop s (n + 1) ⟨a, 0, p⟩ t = rtextLoop s n ⟨a + 1, 0, p⟩ (put t (bt s a))) := by
              unfold Hid
              rw [hstep2.out, if_neg h34, if_neg h92]
            clear h34 h92
            have hcv := fun W => conv_one W wr.heap.size (bt s a) (bt_lt s a)
            go_wp2_with fail
            go_quiet (fail)
            revert nq
            intro na
            go_wp2_with fail
            go_quiet (fail)
            go_wp2_with fail
            go_region
            obtain ⟨m, rfl⟩ : ∃ m, n = m + 1 := ⟨n - 1, by omega⟩
            have HE : Hid _ := round_end (u := t ++ ⟨#[UInt8.ofNat (bt s a)]⟩) (o := .cells #[.int .u8 (bt s a)] 5) (m := na + nq) h1.out hk htn.out hq hqb hz1 hlt rfl
            go_wp2_with fail
            go_roundw
            case rel => exact ⟨⟨a + 1, 0, p⟩, put t (bt s a), m, HE.out.1, HE.out.2.1, HE.out.2.2.1, HE.out.2.2.2, hrun.out.trans hfin.out, by simp only; omega, by simp only; omega, by rw [put_size]; simp only; omega⟩
            case measure => rw [show atOf _ b = _ from HE.out.1.atOf, h1.out.atOf]; simp only; omega
    · have te : ((e : Int) == 0) = false := by simpa using he
      have hfin : Hid (rtext s x = (⟨a, e, p⟩, ⟨115, 0, t, [], []⟩)) := by
        unfold Hid
        rw [hrt.out, hrun.out, hstep.out, if_pos he]
      go_wp2_with fail
      go_ret
      exact ⟨_, rfl, by rw [hfin.out]; exact h1.out, hk, fun d => by rw [hfin.out]; exact htn.out.leaf (by omega) hq⟩
end Go.Proofs.YtdebjhdafnpfkaaGreatDoor
