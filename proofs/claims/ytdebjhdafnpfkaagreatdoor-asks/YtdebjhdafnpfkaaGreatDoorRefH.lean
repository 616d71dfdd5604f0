import Derived.Test.YtdebjhdafnpfkaaGreatDoorRefG
import Derived.Test.YtdebjhdafnpfkaaGreatDoorWorld3
namespace Go.Proofs.YtdebjhdafnpfkaaGreatDoor
open Go.ChangeShapes Go.WideShapes Go.ChangeAt Go.RowKit
set_option linter.unusedVariables false

theorem info_ptr : (Tryz.prog.info? 70).map (fun i => (i.zero, i.size, i.bytes)) = some (some (.pointer none), 1, 8) := by kernel_rfl

/-- What the reader of values does, at a depth. -/
def ValC (d nest b : Nat) (s : ByteArray) (it : Value) : Prop := ∀ (x : St) (w : World), Inv s x → RD w b s x it →
  Calls Tryz.prog 89 #[.pointer (some ⟨b, 0, none⟩), .int .i64 nest] w fun e w' => ∃ q, e = .returned (ptr q) ∧ RD w' b s (rval s d nest x).1 it ∧ Kb b w w' ∧ RVal d w.heap.size w'.heap.size w' q (rval s d nest x).2

set_option maxRecDepth 100000 in
set_option maxHeartbeats 4000000 in
theorem list_any (d nest b : Nat) (s : ByteArray) (x : St) (it : Value) (w : World) (hs : s.size ≤ 4000) (ha : x.a < s.size) (hn6 : nest ≤ 6)
    (hV : ValC d (nest + 1) b s it) (h : RD w b s x it) :
    Calls Tryz.prog 108 #[.pointer (some ⟨b, 0, none⟩), .int .i64 nest] w fun e w' => ∃ q, e = .returned (ptr q) ∧ RD w' b s (rlist s (rval s d (nest + 1)) x).1 it ∧ Kb b w w' ∧
      RVal (d + 1) w.heap.size w'.heap.size w' q (rlist s (rval s d (nest + 1)) x).2 := by
  obtain ⟨i0, hi, hz0, hz1, hz2⟩ := info_parts info_ptr
  have hA := h.A
  have hF := h.F
  have hlt := h.lt
  have h' : Hid (RD w b s x it) := h
  have HV : Hid (ValC d (nest + 1) b s it) := hV
  have hgf : Hid (GdF s (rval s d (nest + 1))) := gd_val d (nest + 1)
  clear h hV
  go_enter Tryz.func108, Tryz.ntmps108
  go_wp2_with fail
  have hrl : Hid (rlist s (rval s d (nest + 1)) x = (rmust s (rlistLoop s (rval s d (nest + 1)) (s.size + 3 - x.a) ⟨x.a + 1, x.e, x.p⟩ []).1 93, ⟨108, 0, ⟨#[]⟩, (rlistLoop s (rval s d (nest + 1)) (s.size + 3 - x.a) ⟨x.a + 1, x.e, x.p⟩ []).2, []⟩)) := rfl
  go_loopw [] (fun wr => ∃ (y : St) (l : List V) (lv : Value) (ps : List Nat) (n : Nat), Hid (RD wr b s y it) ∧ Kb b w wr ∧ Hid (LN wr w.heap.size 108 lv (.slice none 0 0)) ∧ w.heap.size < wr.heap.size ∧
      Hid (wr.ownsRow (w.heap.size + 1) 70 1 lv ps.length (ps.map ptr)) ∧ Hid (Ch d wr w.heap.size lv (.slice none 0 0) ps l) ∧
      Hid (rlistLoop s (rval s d (nest + 1)) (s.size + 3 - x.a) ⟨x.a + 1, x.e, x.p⟩ [] = rlistLoop s (rval s d (nest + 1)) (n + 1) y l) ∧ Hid (Inv s y) ∧ s.size + 2 ≤ y.a + n ∧ ps.length ≤ y.a) (fun wr => s.size + 2 - atOf wr b)
  case atStart =>
    refine ⟨⟨x.a + 1, x.e, x.p⟩, [], .slice none 0 0, [], s.size + 2 - x.a, h'.out.step0.alloc _, ((Kb.refl _ _).set _ _).alloc (by simpa [World.setCell] using hlt) _, ?_, by simp [World.setCell], World.ownsRow_nil _ _ _ _, Ch.nil _ _ _ _ _, ?_, ⟨by show x.a + 1 ≤ _; omega, fun _ => by show x.a + 1 ≤ _; omega⟩, by simp only; omega, Nat.zero_le _⟩
    · have := LN.new (w.setCell ⟨b, 1, none⟩ (.int .i64 ((x.a : Int) + 1))) 108
      rw [show (w.setCell ⟨b, 1, none⟩ (.int .i64 ((x.a : Int) + 1))).heap.size = w.heap.size by simp [World.setCell]] at this
      exact this
    · unfold Hid
      rw [show s.size + 3 - x.a = s.size + 2 - x.a + 1 by omega]
  case round =>
    obtain ⟨y, l, lv, ps, n, h1, hk, hln, hq, hown, hch, hrun, hinv, hn, hps⟩ := hrel
    clear h' hA hF
    have hyb := hinv.out.1
    obtain ⟨hS, hA, hE, hP, hI, hF, hltr⟩ := h1.out
    have hqb : w.heap.size ≠ b := by omega
    have hstep : Hid (rlistLoop s (rval s d (nest + 1)) (n + 1) y l = if y.e ≠ 0 then (y, l) else if ris s (rblanks s y true) 93 = true then (rblanks s y true, l) else
      if ris s (rblanks s (rval s d (nest + 1) (rblanks s y true)).1 true) 44 = true then rlistLoop s (rval s d (nest + 1)) n ⟨(rblanks s (rval s d (nest + 1) (rblanks s y true)).1 true).a + 1, (rblanks s (rval s d (nest + 1) (rblanks s y true)).1 true).e, (rblanks s (rval s d (nest + 1) (rblanks s y true)).1 true).p⟩ (l ++ [(rval s d (nest + 1) (rblanks s y true)).2])
      else (rblanks s (rval s d (nest + 1) (rblanks s y true)).1 true, l ++ [(rval s d (nest + 1) (rblanks s y true)).2])) := rfl
    by_cases he : y.e = 0
    · have te : ((y.e : Int) == 0) = true := by simp [he]
      have He : Hid (y.e = 0) := he
      clear he
      have hg1 := gd_blanks (Gd.refl hinv.out) true
      go_wp2_with fail
      refine (blanks_any b s y it true _ hs (by omega) h1.out).mono ?_
      rintro e w1 ⟨rfl, hd1, hk1⟩
      have hd1' : Hid (RD w1 b s (rblanks s y true) it) := hd1
      have Hg1 : Hid (Gd s y (rblanks s y true)) := hg1
      have hya1 := hg1.1.1
      clear hd1 hg1
      generalize rblanks s y true = y1 at *
      go_wp2_with fail
      refine (is_any b s y1 it 93 _ hs (by omega) hd1'.out).mono ?_
      rintro e w2 ⟨rfl, k2, rfl⟩
      cases hr : ris s y1 93
      · have hstep2 : Hid (rlistLoop s (rval s d (nest + 1)) (n + 1) y l = if ris s (rblanks s (rval s d (nest + 1) y1).1 true) 44 = true then rlistLoop s (rval s d (nest + 1)) n ⟨(rblanks s (rval s d (nest + 1) y1).1 true).a + 1, (rblanks s (rval s d (nest + 1) y1).1 true).e, (rblanks s (rval s d (nest + 1) y1).1 true).p⟩ (l ++ [(rval s d (nest + 1) y1).2])
            else (rblanks s (rval s d (nest + 1) y1).1 true, l ++ [(rval s d (nest + 1) y1).2])) := by
          unfold Hid
          rw [hstep.out, if_neg (by rw [He.out]; simp), if_neg (by rw [hr]; simp)]
        clear hstep
        go_wp2_with fail
        refine (HV.out y1 _ Hg1.out.1 (hd1'.out.drewN k2)).mono ?_
        rintro e w3 ⟨p, rfl, hd3, hk3, hr3⟩
        have hg3 := hgf.out y1 Hg1.out.1
        have hd3' : Hid (RD w3 b s (rval s d (nest + 1) y1).1 it) := hd3
        have hr3' : Hid (RVal d w1.heap.size w3.heap.size w3 p (rval s d (nest + 1) y1).2) := hr3
        have Hg3 : Hid (Gd s y1 (rval s d (nest + 1) y1).1) := hg3
        have hya3 := hg3.1.1
        have hya3' := hg3.2
        have hya2 := Hg1.out.2
        clear hd3 hr3 hg3 hd1'
        generalize (rval s d (nest + 1) y1).1 = y3 at *
        generalize (rval s d (nest + 1) y1).2 = u at *
        have hkr : Kb b wr w3 := (hk1.drewN k2).trans hk3
        have hz13 : w1.heap.size ≤ w3.heap.size := hk3.size
        have hzr1 := hk1.size
        have hzr3 := hkr.size
        have hln3 : Hid (LN w3 w.heap.size 108 lv (.slice none 0 0)) := hln.out.kb hkr hq hqb
        have hown3 : Hid (w3.ownsRow (w.heap.size + 1) 70 1 lv ps.length (ps.map ptr)) := owns_kb hown.out hkr (by omega)
        have hch3 : Hid (Ch d w3 w.heap.size lv (.slice none 0 0) (ps ++ [p]) (l ++ [u])) :=
          (hch.out.kb hkr (by omega)).snoc (by omega) (Nat.le_refl _) (fun k hk => hk.elim (fun e => by have := (hown.out.lt k e).2; omega) (fun e => by simp [Value.ownBlock] at e)) hr3'.out
        have c33 := hln3.out.c3
        have cF3 := hln3.out.F
        have hlt3 := hd3'.out.lt
        obtain ⟨ad3, cap3, hlv⟩ := owns_form hown3.out
        subst hlv
        go_wp2_with (at_builtin; refine wpList_append_own_at _ rfl (.tmp 36) (.tmp 38) 132 rfl (w.heap.size + 1) 70 i0 (.pointer none) 1 8 Tryz.underlying132 hi hz0 hz1 hz2 rfl (by decide) _ _ _ rfl (hown3.out.alloc _) ⟨w3.heap.size, 0, none⟩ 1 1 [ptr p] rfl rfl (cell_one_new _ _ _) (by intro u hu; simp at hu; subst hu; rfl) (by unfold maxLen; omega) (by omega) (by simp; omega) ?_; intro v1 w4 hown4 hgrow4 hnil4 hat4; refine Hid.out ?_)
        have hln4 : Hid (LN w4 w.heap.size 108 (.slice ad3 ps.length cap3) (.slice none 0 0)) := hln3.out.of_block ((hgrow4.block w.heap.size (by simp; omega) (owns_ne hown3.out (by omega))).trans (Below.heap_alloc _ _ _ (by omega)))
        have hch4 : Hid (Ch d w4 w.heap.size v1 (.slice none 0 0) (ps ++ [p]) (l ++ [u])) := (hch3.out.alloc _).growL hgrow4 hat4
        have hd4 : Hid (RD w4 b s y3 it) := (hd3'.out.alloc _).grown hgrow4 (owns_ne hown3.out (by omega))
        have hk4 : Hid (Kb b w w4) := ((hk.trans hkr).alloc hlt3 _).grown hlt hgrow4 (fun k hk => by have := (hown3.out.lt k hk).1; omega)
        have hz4 : w.heap.size < w4.heap.size := by have := hgrow4.size; simp at this; omega
        have hown4' : Hid (w4.ownsRow (w.heap.size + 1) 70 1 v1 (ps ++ [p]).length ((ps ++ [p]).map ptr)) := by
          unfold Hid
          simpa using hown4
        clear hown4 hgrow4 hnil4 hat4 hch3 hown3 hln3 c33 cF3 hown hch hln
        obtain ⟨ad4, cap4, hv1⟩ := owns_form hown4'.out
        subst hv1
        have c43 := hln4.out.c3
        have cF4 := hln4.out.F
        unfold Hid
        have HS : Hid _ := hln4.out.setL (.slice ad4 (ps ++ [p]).length cap4)
        have HD : Hid _ := hd4.out.set_other w.heap.size 3 (.slice ad4 (ps ++ [p]).length cap4) hqb
        have HC : Hid _ := hch4.out.set 3 (.slice ad4 (ps ++ [p]).length cap4)
        have HO : Hid _ := owns_set_other hown4'.out w.heap.size 3 (.slice ad4 (ps ++ [p]).length cap4) (by omega)
        have HK : Hid _ := hk4.out.set_new hlt w.heap.size 3 (.slice ad4 (ps ++ [p]).length cap4) (Nat.le_refl _)
        have hz5 : w.heap.size < (w4.setCell ⟨w.heap.size, 3, none⟩ (.slice ad4 (ps ++ [p]).length cap4)).heap.size := by simpa [World.setCell] using hz4
        have Hz5 : Hid _ := hz5
        clear hz5
        have hpl : (ps ++ [p]).length = ps.length + 1 := by simp
        have Hpl : Hid _ := hpl
        clear hpl
        generalize (ps ++ [p]) = ps2 at *
        generalize (l ++ [u]) = l2 at *
        go_wp2_with fail
        refine (blanks_any b s y3 it true _ hs (by omega) HD.out).mono ?_
        rintro e w5 ⟨rfl, hd5, hk5⟩
        have hg5 := gd_blanks (Gd.refl Hg3.out.1) true
        have hd5' : Hid (RD w5 b s (rblanks s y3 true) it) := hd5
        have Hg5 : Hid (Gd s y3 (rblanks s y3 true)) := hg5
        have hya5 := hg5.1.1
        have hya5' := hg5.2
        clear hd5 hg5
        generalize rblanks s y3 true = y5 at *
        have hA5 := hd5'.out.A
        have hF5 := hd5'.out.F
        have hlt5 := hd5'.out.lt
        have HS5 : Hid (LN w5 w.heap.size 108 (.slice ad4 ps2.length cap4) (.slice none 0 0)) := HS.out.kb hk5 Hz5.out hqb
        have HC5 : Hid (Ch d w5 w.heap.size (.slice ad4 ps2.length cap4) (.slice none 0 0) ps2 l2) := Ch.kb HC.out hk5 (by omega)
        have HO5 : Hid (w5.ownsRow (w.heap.size + 1) 70 1 (.slice ad4 ps2.length cap4) ps2.length (ps2.map ptr)) := owns_kb HO.out hk5 (by omega)
        have HK5 : Hid (Kb b w w5) := HK.out.trans hk5
        have hz5 : w.heap.size < w5.heap.size := Nat.lt_of_lt_of_le Hz5.out hk5.size
        go_wp2_with fail
        refine (is_any b s y5 it 44 _ hs (by omega) hd5'.out).mono ?_
        rintro e w6 ⟨rfl, k6, rfl⟩
        clear HS HD HC HO HK Hz5 hk5 hd4 hch4 hown4' hln4 hk4 c43 cF4 hz4
        cases hr5 : ris s y5 44
        · have hfin : Hid (rlist s (rval s d (nest + 1)) x = (rmust s y5 93, ⟨108, 0, ⟨#[]⟩, l2, []⟩)) := by
            unfold Hid
            rw [hrl.out, hrun.out, hstep2.out, if_neg (by rw [hr5]; simp)]
          go_wp2_with fail
          refine (must_any b s y5 it 93 _ hs (by omega) (hd5'.out.drewN k6)).mono ?_
          rintro e w7 ⟨rfl, hd7, hk7⟩
          have hd7' : Hid (RD w7 b s (rmust s y5 93) it) := hd7
          clear hd7
          have hkk : Hid (Kb b w5 w7) := ((Kb.refl _ _).drewN k6).trans hk7
          go_wp2_with fail
          go_ret
          refine ⟨_, rfl, by rw [hfin.out]; exact hd7'.out, HK5.out.trans hkk.out, ?_⟩
          rw [hfin.out]
          exact (HC5.out.kb hkk.out (by omega)).val (HS5.out.kb hkk.out hz5 hqb) (Nat.le_refl _) (Nat.lt_of_lt_of_le hz5 hkk.out.size) rfl (owns_kb HO5.out hkk.out (by omega)) (World.ownsRow_nil _ _ _ _)
        · have hlt7 := ris_lt hr5
          obtain ⟨m, rfl⟩ : ∃ m, n = m + 1 := ⟨n - 1, by omega⟩
          have hfin : Hid (rlistLoop s (rval s d (nest + 1)) (s.size + 3 - x.a) ⟨x.a + 1, x.e, x.p⟩ [] = rlistLoop s (rval s d (nest + 1)) (m + 1) ⟨y5.a + 1, y5.e, y5.p⟩ l2) := by
            unfold Hid
            rw [hrun.out, hstep2.out, if_pos hr5]
          have hin : Hid (Inv s ⟨y5.a + 1, y5.e, y5.p⟩) := (gd_step Hg5.out hr5).1
          have hpz := Hpl.out
          have hkk : Hid (Kb b w5 ((w5.drewN k6).setCell ⟨b, 1, none⟩ (.int .i64 ((y5.a : Int) + 1)))) := ((Kb.refl _ _).drewN k6).set _ _
          have Hpz : Hid _ := hpz
          clear hpz
          go_wp2_with fail
          go_roundw
          case rel => exact ⟨⟨y5.a + 1, y5.e, y5.p⟩, l2, .slice ad4 ps2.length cap4, ps2, m, hd5'.out.step k6, HK5.out.trans hkk.out, HS5.out.kb hkk.out hz5 hqb, Nat.lt_of_lt_of_le hz5 hkk.out.size, owns_kb HO5.out hkk.out (by omega), HC5.out.kb hkk.out (by omega), hfin, hin, by simp only; omega, by have := Hpz.out; simp only; omega⟩
          case measure => rw [(hd5'.out.step k6).atOf, h1.out.atOf]; simp only; omega
      · have hfin : Hid (rlist s (rval s d (nest + 1)) x = (rmust s y1 93, ⟨108, 0, ⟨#[]⟩, l, []⟩)) := by
          unfold Hid
          rw [hrl.out, hrun.out, hstep.out, if_neg (by rw [He.out]; simp), if_pos hr]
        go_wp2_with fail
        refine (must_any b s y1 it 93 _ hs (by omega) (hd1'.out.drewN k2)).mono ?_
        rintro e w3 ⟨rfl, hd3, hk3⟩
        have hd3' : Hid (RD w3 b s (rmust s y1 93) it) := hd3
        clear hd3
        have hkk : Hid (Kb b wr w3) := (hk1.drewN k2).trans hk3
        go_wp2_with fail
        go_ret
        refine ⟨_, rfl, by rw [hfin.out]; exact hd3'.out, hk.trans hkk.out, ?_⟩
        rw [hfin.out]
        exact (hch.out.kb hkk.out (by omega)).val (hln.out.kb hkk.out hq hqb) (Nat.le_refl _) (Nat.lt_of_lt_of_le hq hkk.out.size) rfl (owns_kb hown.out hkk.out (by omega)) (World.ownsRow_nil _ _ _ _)
    · have te : ((y.e : Int) == 0) = false := by simpa using he
      have hfin : Hid (rlist s (rval s d (nest + 1)) x = (rmust s y 93, ⟨108, 0, ⟨#[]⟩, l, []⟩)) := by
        unfold Hid
        rw [hrl.out, hrun.out, hstep.out, if_pos he]
      clear he
      go_wp2_with fail
      refine (must_any b s y it 93 _ hs (by omega) h1.out).mono ?_
      rintro e w3 ⟨rfl, hd3, hk3⟩
      have hd3' : Hid (RD w3 b s (rmust s y 93) it) := hd3
      clear hd3
      go_wp2_with fail
      go_ret
      refine ⟨_, rfl, by rw [hfin.out]; exact hd3'.out, hk.trans hk3, ?_⟩
      rw [hfin.out]
      exact (hch.out.kb hk3 (by omega)).val (hln.out.kb hk3 hq hqb) (Nat.le_refl _) (Nat.lt_of_lt_of_le hq hk3.size) rfl (owns_kb hown.out hk3 (by omega)) (World.ownsRow_nil _ _ _ _)
end Go.Proofs.YtdebjhdafnpfkaaGreatDoor
