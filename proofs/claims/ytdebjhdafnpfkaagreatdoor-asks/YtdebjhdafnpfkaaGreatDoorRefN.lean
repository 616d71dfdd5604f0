import Derived.Test.YtdebjhdafnpfkaaGreatDoorRefM
import Derived.Test.YtdebjhdafnpfkaaGreatDoorRefJ
import Derived.Test.YtdebjhdafnpfkaaGreatDoorWorld6
namespace Go.Proofs.YtdebjhdafnpfkaaGreatDoor
open Go.ChangeShapes Go.WideShapes Go.ChangeAt Go.RowKit
set_option linter.unusedVariables false

theorem pathLoop_len (s : ByteArray) : ∀ (n : Nat) (y : St) (l : List ByteArray), (rpathLoop s n y l).2.length ≤ l.length + n
  | 0, y, l => Nat.le_refl _
  | n + 1, y, l => by
    simp only [rpathLoop]
    split
    · have := pathLoop_len s n ⟨(rname s y).1.a + 1, (rname s y).1.e, (rname s y).1.p⟩ (l ++ [(rname s y).2])
      simp only [List.length_append, List.length_singleton] at this
      omega
    · simp only [List.length_append, List.length_singleton]
      omega
theorem path_len (s : ByteArray) (x : St) : (rpath s x).2.length ≤ s.size + 1 := by
  have := pathLoop_len s (s.size + 1 - x.a) x []
  simp only [rpath]
  simp only [List.length_nil] at this
  omega

set_option maxRecDepth 100000 in
set_option maxHeartbeats 4000000 in
theorem item_head (b : Nat) (s : ByteArray) (x : St) (it : Value) (cs : List (List Value)) (items : List It) (w : World) (hs : s.size ≤ 4000) (h : RD w b s x it) (hits : Its w b it cs items) (hlen : items.length ≤ 10000)
    (hinv : Inv s x) (hr : ris s x 91 = true) :
    Calls Tryz.prog 57 #[.pointer (some ⟨b, 0, none⟩)] w fun e w' => ∃ pv fv vo, e = .returned (.agg #[.int .u8 (ritem s items x).2.k, pv, fv, .pointer vo, .string (ritem s items x).2.rem]) ∧ RD w' b s (ritem s items x).1 it ∧ Kb b w w' ∧
      RIt w.heap.size w'.heap.size w' [.int .u8 (ritem s items x).2.k, pv, fv, .pointer vo, .string (ritem s items x).2.rem] (ritem s items x).2 := by
  have hA := h.A
  have hF := h.F
  have hlt := h.lt
  have h' : Hid (RD w b s x it) := h
  have HI : Hid (Its w b it cs items) := hits
  have hlx := ris_lt hr
  have hri : Hid (ritem s items x = (if (rmust s (rblanks s (rpath s (rblanks s ⟨x.a + 1, x.e, x.p⟩ false)).1 false) 93).e = 0 ∧ rtwice items ⟨91, (rpath s (rblanks s ⟨x.a + 1, x.e, x.p⟩ false)).2, [], V0, ⟨#[]⟩⟩ = true then rno (rmust s (rblanks s (rpath s (rblanks s ⟨x.a + 1, x.e, x.p⟩ false)).1 false) 93) 6 x.a else rmust s (rblanks s (rpath s (rblanks s ⟨x.a + 1, x.e, x.p⟩ false)).1 false) 93, ⟨91, (rpath s (rblanks s ⟨x.a + 1, x.e, x.p⟩ false)).2, [], V0, ⟨#[]⟩⟩)) := by
    unfold Hid ritem
    rw [if_pos hr]
  clear h hits
  go_enter Tryz.func57, Tryz.ntmps57
  go_wp2_with fail
  refine (is_any b s x it 91 _ hs (by omega) ((h'.out.alloc _).alloc _)).mono ?_
  rintro e w1 ⟨rfl, k1, rfl⟩
  have R2 : Hid _ := ((((h'.out.alloc (.cells #[.int .u8 0, .slice none 0 0, .slice none 0 0, .pointer none, .string ⟨#[]⟩] 72)).alloc (.cells #[.int .u8 61, .slice none 0 0, .slice none 0 0, .pointer none, .string ⟨#[]⟩] 72)).drewN k1).set_other (w.heap.size + 1) 0 (.int .u8 91) (by omega)).step0
  have K2 : Hid _ := (((((Kb.refl b w).alloc hlt (.cells #[.int .u8 0, .slice none 0 0, .slice none 0 0, .pointer none, .string ⟨#[]⟩] 72)).alloc (by simp; omega) (.cells #[.int .u8 61, .slice none 0 0, .slice none 0 0, .pointer none, .string ⟨#[]⟩] 72)).drewN k1).set_new hlt (w.heap.size + 1) 0 (.int .u8 91) (by omega)).set 1 (.int .i64 ((x.a : Int) + 1))
  have e1 : (w.alloc (.cells #[.int .u8 0, .slice none 0 0, .slice none 0 0, .pointer none, .string ⟨#[]⟩] 72)).heap.size = w.heap.size + 1 := by simp
  have XQ := XN.new (w.alloc (.cells #[.int .u8 0, .slice none 0 0, .slice none 0 0, .pointer none, .string ⟨#[]⟩] 72)) 61
  rw [e1] at XQ
  have X1 : Hid _ := ((XQ.drewN k1).setK 91).set_other b 1 (.int .i64 ((x.a : Int) + 1)) (by omega)
  have X0 : Hid _ := ((((XN.new w 0).alloc (.cells #[.int .u8 61, .slice none 0 0, .slice none 0 0, .pointer none, .string ⟨#[]⟩] 72)).drewN k1).set_other (w.heap.size + 1) 0 (.int .u8 91) (by omega)).set_other b 1 (.int .i64 ((x.a : Int) + 1)) (by omega)
  have HZ : Hid ((((((w.alloc (.cells #[.int .u8 0, .slice none 0 0, .slice none 0 0, .pointer none, .string ⟨#[]⟩] 72)).alloc (.cells #[.int .u8 61, .slice none 0 0, .slice none 0 0, .pointer none, .string ⟨#[]⟩] 72)).drewN k1).setCell ⟨w.heap.size + 1, 0, none⟩ (.int .u8 91)).setCell ⟨b, 1, none⟩ (.int .i64 ((x.a : Int) + 1))).heap.size = w.heap.size + 1 + 1) := by
    unfold Hid
    simp [World.setCell]
  clear XQ e1 h'
  go_wp2_with fail
  refine (blanks_any b s ⟨x.a + 1, x.e, x.p⟩ it false _ hs (by simp only; omega) R2.out).mono ?_
  rintro e w2 ⟨rfl, hd2, hk2⟩
  have hg2 : Gd s ⟨x.a + 1, x.e, x.p⟩ (rblanks s ⟨x.a + 1, x.e, x.p⟩ false) := gd_blanks (Gd.refl ⟨by show x.a + 1 ≤ _; omega, fun _ => by show x.a + 1 ≤ _; omega⟩) false
  have hxe : x.e = 0 := by simp only [ris, decide_eq_true_eq] at hr; exact hr.1
  have hy1e : (rblanks s ⟨x.a + 1, x.e, x.p⟩ false).a ≤ s.size := hg2.1.2 hxe
  have Hg2 : Hid (Inv s (rblanks s ⟨x.a + 1, x.e, x.p⟩ false)) := hg2.1
  have hd2' : Hid (RD w2 b s (rblanks s ⟨x.a + 1, x.e, x.p⟩ false) it) := hd2
  have K3 : Hid (Kb b w w2) := Kb.trans K2.out hk2
  have X3 : Hid (XN w2 (w.heap.size + 1) 91 (.slice none 0 0) (.slice none 0 0) none ⟨#[]⟩) := XN.kb X1.out hk2 (by omega)
  have Y3 : Hid (XN w2 w.heap.size 0 (.slice none 0 0) (.slice none 0 0) none ⟨#[]⟩) := XN.kb X0.out hk2 (by omega)
  have hz2 : w.heap.size + 1 + 1 ≤ w2.heap.size := by have := hk2.size; rw [HZ.out] at this; exact this
  clear hd2 hg2 hxe hk2 R2 K2 X1 X0 HZ hA hF
  generalize rblanks s ⟨x.a + 1, x.e, x.p⟩ false = y1 at *
  go_wp2_with fail
  refine (path_any b s y1 it _ hs hy1e hd2'.out).mono ?_
  rintro e w3 ⟨pv, rfl, hd3, hk3, hr3⟩
  have hg3 := gd_path (Gd.refl Hg2.out)
  have hlp := path_len s y1
  have hd3' : Hid (RD w3 b s (rpath s y1).1 it) := hd3
  have hr3' : Hid (RowIn w3 w2.heap.size w3.heap.size 9 pv ((rpath s y1).2.map .string)) := hr3
  have Hg3 : Hid (Inv s (rpath s y1).1) := hg3.1
  have hy3a := hg3.1.1
  clear hd3 hr3 hg3
  generalize (rpath s y1).2 = pth at *
  generalize (rpath s y1).1 = y3 at *
  obtain ⟨ap, cp, ep⟩ := owns_form hr3'.out.1
  subst ep
  simp only [List.length_map] at hr3'
  have X4 : Hid (XN w3 (w.heap.size + 1) 91 (.slice none 0 0) (.slice none 0 0) none ⟨#[]⟩) := X3.out.kb hk3 (by omega)
  have Y4 : Hid (XN w3 w.heap.size 0 (.slice none 0 0) (.slice none 0 0) none ⟨#[]⟩) := Y3.out.kb hk3 (by omega)
  have K4 : Hid (Kb b w w3) := K3.out.trans hk3
  have hz3 := hk3.size
  obtain ⟨c0, c1, c2, c3, c4, cF, cl⟩ := X4.out
  have R5 : Hid _ := hd3'.out.set_other (w.heap.size + 1) 1 (.slice ap pth.length cp) (by omega)
  have K5 : Hid _ := K4.out.set_new hlt (w.heap.size + 1) 1 (.slice ap pth.length cp) (by omega)
  have X5 : Hid _ := X4.out.setP (.slice ap pth.length cp)
  have Y5 : Hid _ := Y4.out.set_other (w.heap.size + 1) 1 (.slice ap pth.length cp) (by omega)
  have P5 : Hid _ := hr3'.out.set (w.heap.size + 1) 1 (.slice ap pth.length cp) (by omega)
  have Z5 : Hid ((w3.setCell ⟨w.heap.size + 1, 1, none⟩ (.slice ap pth.length cp)).heap.size = w3.heap.size) := by unfold Hid; simp [World.setCell]
  clear hd3' hr3' X3 Y3 K3 hk3 K4 Y4
  simp only [List.length_map]
  go_wp2_with fail
  refine (blanks_any b s y3 it false _ hs (by omega) R5.out).mono ?_
  rintro e w6 ⟨rfl, hd6, hk6⟩
  have hg6 := gd_blanks (Gd.refl Hg3.out) false
  have hd6' : Hid (RD w6 b s (rblanks s y3 false) it) := hd6
  have hy6a := hg6.1.1
  have Hg6 : Hid (Inv s (rblanks s y3 false)) := hg6.1
  clear hd6 hg6 X4 c0 c1 c2 c3 c4 cF cl
  generalize rblanks s y3 false = y6 at *
  go_wp2_with fail
  refine (must_any b s y6 it 93 _ hs (by omega) hd6'.out).mono ?_
  rintro e w7 ⟨rfl, hd7, hk7⟩
  have hd7' : Hid (RD w7 b s (rmust s y6 93) it) := hd7
  have hk67 := hk6.trans hk7
  have K7 : Hid (Kb b w w7) := Kb.trans K5.out hk67
  have X7 : Hid (XN w7 (w.heap.size + 1) 91 (.slice ap pth.length cp) (.slice none 0 0) none ⟨#[]⟩) := XN.kb X5.out hk67 (by omega)
  have Y7 : Hid (XN w7 w.heap.size 0 (.slice none 0 0) (.slice none 0 0) none ⟨#[]⟩) := XN.kb Y5.out hk67 (by omega)
  have P7 : Hid (RowIn w7 w2.heap.size w3.heap.size 9 (.slice ap pth.length cp) (pth.map .string)) := RowIn.kb P5.out hk67 (by omega) (by rw [Z5.out]; exact Nat.le_refl _)
  have hz7 : w3.heap.size ≤ w7.heap.size := by have := hk67.size; rw [Z5.out] at this; exact this
  have I7 : Hid (Its w7 b it cs items) := HI.out.kb K7.out
  clear hd7 hd6' hk6 hk7 hk67 R5 K5 X5 Y5 P5 Z5 Hg6 Hg3
  generalize rmust s y6 93 = y7 at *
  have hE7 := hd7'.out.E
  obtain ⟨c0, c1, c2, c3, c4, cF, cl⟩ := X7.out
  obtain ⟨d0, d1, d2, d3, d4, dF, dl⟩ := Y7.out
  by_cases he : y7.e = 0
  · have te : ((y7.e : Int) == 0) = true := by simp [he]
    have He : Hid (y7.e = 0) := he
    clear he
    go_wp2_with fail
    refine (twice_any b s y7 it cs items ⟨91, pth, [], V0, ⟨#[]⟩⟩ (.slice ap pth.length cp) (.slice none 0 0) none w2.heap.size w3.heap.size _ hd7'.out I7.out hlen P7.out (RowIn.nil _ _ _ _) hz7 (by show pth.length ≤ _; omega) (by simp) (.inl rfl)).mono ?_
    rintro e w8 ⟨rfl, hb8⟩
    have K8 : Hid (Kb b w w8) := Kb.of_new K7.out hlt hb8.os hb8.tape hb8.output hb8.size (fun k hk => hb8.block k (Nat.lt_of_lt_of_le hk K7.out.size))
    have D8 : Hid (RD w8 b s y7 it) := hd7'.out.of_block (hb8.block b hd7'.out.lt) hb8.size
    have X8 : Hid (XN w8 (w.heap.size + 1) 91 (.slice ap pth.length cp) (.slice none 0 0) none ⟨#[]⟩) := X7.out.below hb8 X7.out.lt
    have Y8 : Hid (XN w8 w.heap.size 0 (.slice none 0 0) (.slice none 0 0) none ⟨#[]⟩) := Y7.out.below hb8 Y7.out.lt
    have P8 : Hid (RowIn w8 w2.heap.size w3.heap.size 9 (.slice ap pth.length cp) (pth.map .string)) := P7.out.frame (fun k _ k2 => hb8.block k (by omega))
    have hz8 := hb8.size
    clear hb8 K7 hd7' X7 Y7 P7 c0 c1 c2 c3 c4 cF cl d0 d1 d2 d3 d4 dF dl hE7 I7
    obtain ⟨c0, c1, c2, c3, c4, cF, cl⟩ := X8.out
    obtain ⟨d0, d1, d2, d3, d4, dF, dl⟩ := Y8.out
    cases htw : rtwice items ⟨91, pth, [], V0, ⟨#[]⟩⟩
    · have hfin : Hid (ritem s items x = (y7, ⟨91, pth, [], V0, ⟨#[]⟩⟩)) := by
        unfold Hid
        rw [hri.out, if_neg (fun e => by rw [htw] at e; simp at e)]
      go_wp2_with fail
      have XF := Y8.out.put5 91 (.slice ap pth.length cp) (.slice none 0 0) none ⟨#[]⟩
      obtain ⟨f0, f1, f2, f3, f4, fF, fl⟩ := XF
      refine bodyPost_ret (v := .agg #[.int .u8 91, .slice ap pth.length cp, .slice none 0 0, .pointer none, .string ⟨#[]⟩]) (by push_cast [put5] at f0 f1 f2 f3 f4; simp [results, Tryz.results57, go_sem, f0, f1, f2, f3, f4]) rfl ?_
      refine ⟨_, _, none, by rw [hfin.out]; rfl, by rw [hfin.out]; exact D8.out.put5 _ _ _ _ _ _ (by omega), K8.out.put5 hlt _ _ _ _ _ _ (Nat.le_refl _), ?_⟩
      rw [hfin.out]
      exact ⟨_, _, _, rfl, (P8.out.put5 _ _ _ _ _ _ (by omega)).wide (by omega) (Nat.le_trans (show w3.heap.size ≤ w8.heap.size by omega) (Nat.le_of_eq (put5_size w8 _ _ _ _ _ _).symm)), RowIn.nil _ _ _ _, fun e => by simp at e, fun _ => rfl, by show pth.length ≤ _; omega, by simp⟩
    · have hfin : Hid (ritem s items x = (rno y7 6 x.a, ⟨91, pth, [], V0, ⟨#[]⟩⟩)) := by
        unfold Hid
        rw [hri.out, if_pos ⟨He.out, htw⟩]
      go_wp2_with fail
      refine (no_any b s y7 it 6 x.a _ D8.out).mono ?_
      rintro e w9 ⟨rfl, hd9, hk9⟩
      have K9 : Hid (Kb b w w9) := K8.out.trans hk9
      have D9 : Hid (RD w9 b s (rno y7 6 x.a) it) := hd9
      have X9 : Hid (XN w9 (w.heap.size + 1) 91 (.slice ap pth.length cp) (.slice none 0 0) none ⟨#[]⟩) := X8.out.kb hk9 (by omega)
      have Y9 : Hid (XN w9 w.heap.size 0 (.slice none 0 0) (.slice none 0 0) none ⟨#[]⟩) := Y8.out.kb hk9 (by omega)
      have P9 : Hid (RowIn w9 w2.heap.size w3.heap.size 9 (.slice ap pth.length cp) (pth.map .string)) := P8.out.kb hk9 (by omega) (by omega)
      have hz9 := hk9.size
      clear hd9 hk9 K8 D8 X8 Y8 P8 c0 c1 c2 c3 c4 cF cl d0 d1 d2 d3 d4 dF dl
      obtain ⟨c0, c1, c2, c3, c4, cF, cl⟩ := X9.out
      obtain ⟨d0, d1, d2, d3, d4, dF, dl⟩ := Y9.out
      go_wp2_with fail
      have XF := Y9.out.put5 91 (.slice ap pth.length cp) (.slice none 0 0) none ⟨#[]⟩
      obtain ⟨f0, f1, f2, f3, f4, fF, fl⟩ := XF
      refine bodyPost_ret (v := .agg #[.int .u8 91, .slice ap pth.length cp, .slice none 0 0, .pointer none, .string ⟨#[]⟩]) (by push_cast [put5] at f0 f1 f2 f3 f4; simp [results, Tryz.results57, go_sem, f0, f1, f2, f3, f4]) rfl ?_
      refine ⟨_, _, none, by rw [hfin.out]; rfl, by rw [hfin.out]; exact D9.out.put5 _ _ _ _ _ _ (by omega), K9.out.put5 hlt _ _ _ _ _ _ (Nat.le_refl _), ?_⟩
      rw [hfin.out]
      exact ⟨_, _, _, rfl, (P9.out.put5 _ _ _ _ _ _ (by omega)).wide (by omega) (Nat.le_trans (show w3.heap.size ≤ w9.heap.size by omega) (Nat.le_of_eq (put5_size w9 _ _ _ _ _ _).symm)), RowIn.nil _ _ _ _, fun e => by simp at e, fun _ => rfl, by show pth.length ≤ _; omega, by simp⟩
  · have te : ((y7.e : Int) == 0) = false := by simpa using he
    have hfin : Hid (ritem s items x = (y7, ⟨91, pth, [], V0, ⟨#[]⟩⟩)) := by
      unfold Hid
      rw [hri.out, if_neg (fun e => he e.1)]
    clear he
    go_wp2_with fail
    have XF := Y7.out.put5 91 (.slice ap pth.length cp) (.slice none 0 0) none ⟨#[]⟩
    obtain ⟨f0, f1, f2, f3, f4, fF, fl⟩ := XF
    refine bodyPost_ret (v := .agg #[.int .u8 91, .slice ap pth.length cp, .slice none 0 0, .pointer none, .string ⟨#[]⟩]) (by push_cast [put5] at f0 f1 f2 f3 f4; simp [results, Tryz.results57, go_sem, f0, f1, f2, f3, f4]) rfl ?_
    refine ⟨_, _, none, by rw [hfin.out]; rfl, by rw [hfin.out]; exact hd7'.out.put5 _ _ _ _ _ _ (by omega), K7.out.put5 hlt _ _ _ _ _ _ (Nat.le_refl _), ?_⟩
    rw [hfin.out]
    exact ⟨_, _, _, rfl, (P7.out.put5 _ _ _ _ _ _ (by omega)).wide (by omega) (Nat.le_trans (show w3.heap.size ≤ w7.heap.size by omega) (Nat.le_of_eq (put5_size w7 _ _ _ _ _ _).symm)), RowIn.nil _ _ _ _, fun e => by simp at e, fun _ => rfl, by show pth.length ≤ _; omega, by simp⟩
end Go.Proofs.YtdebjhdafnpfkaaGreatDoor
