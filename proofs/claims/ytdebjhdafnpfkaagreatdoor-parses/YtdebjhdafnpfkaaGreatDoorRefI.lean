import Derived.Test.YtdebjhdafnpfkaaGreatDoorRefH
namespace Go.Proofs.YtdebjhdafnpfkaaGreatDoor
open Go.ChangeShapes Go.WideShapes Go.ChangeAt Go.RowKit
set_option linter.unusedVariables false

theorem rno_rno (x : St) (k q : Nat) (hk : k ≠ 0) : rno (rno x k q) k q = rno x k q := by
  unfold rno
  by_cases h : x.e = 0
  · simp [h, hk]
  · simp [h]
theorem has_take (m : List ByteArray) (nm : ByteArray) (k : Nat) (hk : k < m.length) : has (m.take (k + 1)) nm = (has (m.take k) nm || decide (m[k] = nm)) := by
  rw [List.take_succ_eq_append_getElem hk]
  simp only [has, List.any_append, List.any_cons, List.any_nil, Bool.or_false]
/-- Behind the names that were looked at. -/
def seen (m : List ByteArray) (nm : ByteArray) (a : Nat) (y : St) : St := if has m nm = true then rno y 6 a else y

theorem seen_eq (m : List ByteArray) (nm : ByteArray) (a k : Nat) (y : St) (hk : k < m.length) (h : m[k] = nm) : seen (m.take (k + 1)) nm a y = rno (seen (m.take k) nm a y) 6 a := by
  unfold seen
  rw [has_take m nm k hk]
  cases has (m.take k) nm
  · simp [h]
  · simp [rno_rno]
theorem seen_ne (m : List ByteArray) (nm : ByteArray) (a k : Nat) (y : St) (hk : k < m.length) (h : ¬ m[k] = nm) : seen (m.take (k + 1)) nm a y = seen (m.take k) nm a y := by
  unfold seen
  rw [has_take m nm k hk]
  simp [h]
theorem gd_seen {s : ByteArray} {x y : St} (m : List ByteArray) (nm : ByteArray) (a : Nat) (h : Gd s x y) : Gd s x (seen m nm a y) := gd_ite (gd_no h (by decide)) h
theorem owns_some {w : World} {base : Nat} {e : TypeId} {ad : Option Addr} {n cap : Nat} {xs : List Value} (h : w.ownsRow base e 1 (.slice ad n cap) n xs) (hn : 0 < n) : ∃ g, ad = some ⟨g, 0, none⟩ ∧ base ≤ g ∧ g < w.heap.size := by
  rcases h.2 with ⟨h1, h2⟩ | ⟨g, c, cur, h1, h2, h3, _⟩
  · omega
  · simp only [Value.slice.injEq] at h1
    exact ⟨g, h1.1, h2, (Array.getElem?_eq_some_iff.1 h3).1⟩

set_option maxRecDepth 100000 in
set_option maxHeartbeats 8000000 in
theorem group_any (d nest b : Nat) (s : ByteArray) (x : St) (it : Value) (w : World) (hs : s.size ≤ 4000) (ha : x.a < s.size) (hn6 : nest ≤ 6)
    (hV : ValC d (nest + 1) b s it) (h : RD w b s x it) :
    Calls Tryz.prog 109 #[.pointer (some ⟨b, 0, none⟩), .int .i64 nest] w fun e w' => ∃ q, e = .returned (ptr q) ∧ RD w' b s (rgroup s (rval s d (nest + 1)) x).1 it ∧ Kb b w w' ∧
      RVal (d + 1) w.heap.size w'.heap.size w' q (rgroup s (rval s d (nest + 1)) x).2 := by
  obtain ⟨i0, hi, hz0, hz1, hz2⟩ := info_parts info_ptr
  obtain ⟨j0, hj, hy0, hy1, hy2⟩ := info_parts info_string
  have hA := h.A
  have hF := h.F
  have hlt := h.lt
  have h' : Hid (RD w b s x it) := h
  have HV : Hid (ValC d (nest + 1) b s it) := hV
  have hgf : Hid (GdF s (rval s d (nest + 1))) := gd_val d (nest + 1)
  have hqb : w.heap.size ≠ b := by omega
  clear h hV
  have hrg : Hid (rgroup s (rval s d (nest + 1)) x = if ris s (rblanks s ⟨x.a + 1, x.e, x.p⟩ false) 125 = true then (⟨(rblanks s ⟨x.a + 1, x.e, x.p⟩ false).a + 1, (rblanks s ⟨x.a + 1, x.e, x.p⟩ false).e, (rblanks s ⟨x.a + 1, x.e, x.p⟩ false).p⟩, ⟨103, 0, ⟨#[]⟩, [], []⟩)
    else (rmust s (rgroupLoop s (rval s d (nest + 1)) (s.size + 3 - x.a) (rblanks s ⟨x.a + 1, x.e, x.p⟩ false) [] []).1 125, ⟨103, 0, ⟨#[]⟩, (rgroupLoop s (rval s d (nest + 1)) (s.size + 3 - x.a) (rblanks s ⟨x.a + 1, x.e, x.p⟩ false) [] []).2.1, (rgroupLoop s (rval s d (nest + 1)) (s.size + 3 - x.a) (rblanks s ⟨x.a + 1, x.e, x.p⟩ false) [] []).2.2⟩)) := rfl
  have hz0w : (w.setCell ⟨b, 1, none⟩ (.int .i64 ((x.a : Int) + 1))).heap.size = w.heap.size := by simp [World.setCell]
  have HLN : Hid _ := LN.new (w.setCell ⟨b, 1, none⟩ (.int .i64 ((x.a : Int) + 1))) 103
  have HRD : Hid _ := h'.out.step0.alloc (.cells #[.int .u8 103, .int .i64 0, .string ⟨#[]⟩, .slice none 0 0, .slice none 0 0] 134)
  have HKB : Hid _ := ((Kb.refl b w).set 1 (.int .i64 ((x.a : Int) + 1))).alloc (by rw [hz0w]; exact hlt) (.cells #[.int .u8 103, .int .i64 0, .string ⟨#[]⟩, .slice none 0 0, .slice none 0 0] 134)
  rw [hz0w] at HLN
  clear hz0w
  go_enter Tryz.func109, Tryz.ntmps109
  go_wp2_with fail
  refine (blanks_any b s ⟨x.a + 1, x.e, x.p⟩ it false _ hs (by simp only; omega) HRD.out).mono ?_
  rintro e w1 ⟨rfl, hd1, hk1⟩
  have hg0 : Gd s ⟨x.a + 1, x.e, x.p⟩ (rblanks s ⟨x.a + 1, x.e, x.p⟩ false) := gd_blanks (Gd.refl ⟨by show x.a + 1 ≤ _; omega, fun _ => by show x.a + 1 ≤ _; omega⟩) false
  have hd1' : Hid (RD w1 b s (rblanks s ⟨x.a + 1, x.e, x.p⟩ false) it) := hd1
  have hx1 := hg0.1.1
  have hx1' := hg0.2
  have Hg0 : Hid (Inv s (rblanks s ⟨x.a + 1, x.e, x.p⟩ false)) := hg0.1
  simp only at hx1'
  clear hd1 hg0
  generalize rblanks s ⟨x.a + 1, x.e, x.p⟩ false = x1 at *
  have hqz : w.heap.size < ((w.setCell ⟨b, 1, none⟩ (.int .i64 ((x.a : Int) + 1))).alloc (.cells #[.int .u8 103, .int .i64 0, .string ⟨#[]⟩, .slice none 0 0, .slice none 0 0] 134)).heap.size := by simp [World.setCell]
  have HLN1 : Hid (LN w1 w.heap.size 103 (.slice none 0 0) (.slice none 0 0)) := HLN.out.kb hk1 hqz hqb
  have HKB1 : Hid (Kb b w w1) := HKB.out.trans hk1
  have hz1w : w.heap.size < w1.heap.size := Nat.lt_of_lt_of_le hqz hk1.size
  clear HLN HRD HKB hqz hk1 hA hF h'
  have hA := hd1'.out.A
  have hF := hd1'.out.F
  have hlt1 := hd1'.out.lt
  go_wp2_with fail
  refine (is_any b s x1 it 125 _ hs (by omega) hd1'.out).mono ?_
  rintro e w2 ⟨rfl, k2, rfl⟩
  cases hr1 : ris s x1 125
  · have hrg2 : Hid (rgroup s (rval s d (nest + 1)) x = (rmust s (rgroupLoop s (rval s d (nest + 1)) (s.size + 3 - x.a) x1 [] []).1 125, ⟨103, 0, ⟨#[]⟩, (rgroupLoop s (rval s d (nest + 1)) (s.size + 3 - x.a) x1 [] []).2.1, (rgroupLoop s (rval s d (nest + 1)) (s.size + 3 - x.a) x1 [] []).2.2⟩)) := by
      unfold Hid
      rw [hrg.out, if_neg (by rw [hr1]; simp)]
    clear hrg
    go_wp2_with fail
    go_loopw [] (fun wr => ∃ (y : St) (l : List V) (m : List ByteArray) (lv nv : Value) (ps : List Nat) (n : Nat), Hid (RD wr b s y it) ∧ Kb b w wr ∧ Hid (LN wr w.heap.size 103 lv nv) ∧ w.heap.size < wr.heap.size ∧
        Hid (wr.ownsRow (w.heap.size + 1) 70 1 lv ps.length (ps.map ptr)) ∧ Hid (wr.ownsRow (w.heap.size + 1) 9 1 nv m.length (m.map .string)) ∧ Hid (Ch d wr w.heap.size lv nv ps l) ∧
        Hid (rgroupLoop s (rval s d (nest + 1)) (s.size + 3 - x.a) x1 [] [] = rgroupLoop s (rval s d (nest + 1)) (n + 1) y l m) ∧ Hid (Inv s y) ∧ s.size + 2 ≤ y.a + n ∧ ps.length ≤ y.a ∧ m.length ≤ y.a) (fun wr => s.size + 2 - atOf wr b)
    case atStart =>
      refine ⟨x1, [], [], .slice none 0 0, .slice none 0 0, [], s.size + 2 - x.a, hd1'.out.drewN k2, HKB1.out.drewN k2, HLN1.out.kb ((Kb.refl b _).drewN k2) hz1w hqb, hz1w, World.ownsRow_nil _ _ _ _, World.ownsRow_nil _ _ _ _, Ch.nil _ _ _ _ _, ?_, Hg0, by omega, Nat.zero_le _, Nat.zero_le _⟩
      unfold Hid
      rw [show s.size + 3 - x.a = s.size + 2 - x.a + 1 by omega]
    case round =>
      obtain ⟨y, l, m, lv, nv, ps, n, h1, hk, hln, hq, hown, hnown, hch, hrun, hinv, hn, hps, hms⟩ := hrel
      clear hd1' hA hF HLN1 HKB1 hz1w Hg0 hlt1
      have hyb := hinv.out.1
      obtain ⟨hS, hA, hE, hP, hI, hF, hltr⟩ := h1.out
      have hstep : Hid (rgroupLoop s (rval s d (nest + 1)) (n + 1) y l m = if y.e ≠ 0 then (y, l, m) else
        if ris s (rmember s (rval s d (nest + 1)) m y).1 44 = true then rgroupLoop s (rval s d (nest + 1)) n ⟨(rmember s (rval s d (nest + 1)) m y).1.a + 1, (rmember s (rval s d (nest + 1)) m y).1.e, (rmember s (rval s d (nest + 1)) m y).1.p⟩ (l ++ [(rmember s (rval s d (nest + 1)) m y).2.1]) (m ++ [(rmember s (rval s d (nest + 1)) m y).2.2])
        else ((rmember s (rval s d (nest + 1)) m y).1, l ++ [(rmember s (rval s d (nest + 1)) m y).2.1], m ++ [(rmember s (rval s d (nest + 1)) m y).2.2])) := rfl
      by_cases he : y.e = 0
      · have te : ((y.e : Int) == 0) = true := by simp [he]
        have He : Hid (y.e = 0) := he
        have hys : y.a ≤ s.size := hinv.out.2 he
        clear he
        have hmem : Hid (rmember s (rval s d (nest + 1)) m y = (rblanks s (rval s d (nest + 1) (rblanks s (rmust s (rblanks s (seen m (rname s (rblanks s y false)).2 (rblanks s y false).a (rname s (rblanks s y false)).1) false) 61) false)).1 false, (rval s d (nest + 1) (rblanks s (rmust s (rblanks s (seen m (rname s (rblanks s y false)).2 (rblanks s y false).a (rname s (rblanks s y false)).1) false) 61) false)).2, (rname s (rblanks s y false)).2)) := rfl
        go_wp2_with fail
        refine (blanks_any b s y it false _ hs (by omega) h1.out).mono ?_
        rintro e w1 ⟨rfl, hd2, hk2⟩
        have hg1 := gd_blanks (Gd.refl hinv.out) false
        have hd2' : Hid (RD w1 b s (rblanks s y false) it) := hd2
        have Hg1 : Hid (Gd s y (rblanks s y false)) := hg1
        have hy1a := hg1.1.1
        have hy1b := hg1.2
        have hy1e : (rblanks s y false).a ≤ s.size := hg1.1.2 He.out
        clear hd2 hg1
        generalize rblanks s y false = y1 at *
        have hA1 := hd2'.out.A
        go_wp2_with fail
        refine (name_any b s y1 it _ hs hy1e hd2'.out).mono ?_
        rintro e w2 ⟨rfl, hd3, hk3⟩
        have hg3 := gd_name (Gd.refl Hg1.out.1)
        have hd3' : Hid (RD w2 b s (rname s y1).1 it) := hd3
        have Hg3 : Hid (Gd s y1 (rname s y1).1) := hg3
        have hy2a := hg3.1.1
        have hy2b := hg3.2
        clear hd3 hg3 hA1
        generalize (rname s y1).1 = y2 at *
        generalize (rname s y1).2 = nm at *
        have hkr : Kb b wr w2 := hk2.trans hk3
        have hzr := hkr.size
        have hln2 : Hid (LN w2 w.heap.size 103 lv nv) := hln.out.kb hkr hq hqb
        have hown2 : Hid (w2.ownsRow (w.heap.size + 1) 70 1 lv ps.length (ps.map ptr)) := owns_kb hown.out hkr (by omega)
        have hnown2 : Hid (w2.ownsRow (w.heap.size + 1) 9 1 nv m.length (m.map .string)) := owns_kb hnown.out hkr (by omega)
        have hch2 : Hid (Ch d w2 w.heap.size lv nv ps l) := hch.out.kb hkr (by omega)
        have hk0 : Kb b w w2 := hk.trans hkr
        have hq2 : w.heap.size < w2.heap.size := by omega
        clear hln hown hnown hch hk2 hk3 hkr hk hd2'
        obtain ⟨adn, capn, hnv⟩ := owns_form hnown2.out
        subst hnv
        go_wp2_with fail
        go_loopw [9] (fun i wi => ∃ (k : Nat), k ≤ m.length ∧ i = .int .i64 k ∧ Hid (RD wi b s (seen (m.take k) nm y1.a y2) it) ∧ Kb b w2 wi) (fun i _ => m.length - (intOf i).toNat)
        case atStart => exact ⟨0, Nat.zero_le _, rfl, hd3', Kb.refl _ _⟩
        case round =>
          clear hd3'
          obtain ⟨k, hkm, rfl, hdi, hki⟩ := hrel
          have hlni : Hid (LN wr w.heap.size 103 lv (.slice adn m.length capn)) := hln2.out.kb hki hq2 hqb
          have hnowni : Hid (wr.ownsRow (w.heap.size + 1) 9 1 (.slice adn m.length capn) m.length (m.map .string)) := owns_kb hnown2.out hki (by omega)
          have hc4 := hlni.out.c4
          have hzi := hki.size
          by_cases hkl : k < m.length
          · obtain ⟨g, hg, hgb, hgz⟩ := owns_some hnowni.out (by omega)
            subst hg
            have hcell : wr.cell? ⟨g, k, none⟩ = some (.string m[k]) := by
              rw [hnowni.out.cellAt k (by omega)]
              simp [hkl]
            have td : decide (k < m.length) = true := by simpa using hkl
            by_cases heq : m[k] = nm
            · have ts : (m[k].toList == nm.toList) = true := by rw [toList_beq]; simpa using heq
              have hsn : Hid (seen (m.take (k + 1)) nm y1.a y2 = rno (seen (m.take k) nm y1.a y2) 6 y1.a) := seen_eq m nm y1.a k y2 hkl heq
              clear heq
              go_wp2_with fail
              refine (no_any b s _ it 6 y1.a _ hdi.out).mono ?_
              rintro e wj ⟨rfl, hdj, hkj⟩
              have hdj' : Hid (RD wj b s (rno (seen (m.take k) nm y1.a y2) 6 y1.a) it) := hdj
              clear hdj
              go_wp2_with fail
              go_roundw
              case rel => exact ⟨k + 1, by omega, by go_num, by rw [hsn.out]; exact hdj', hki.trans hkj⟩
              case measure => simp [intOf]; omega
            · have ts : (m[k].toList == nm.toList) = false := by rw [toList_beq]; simpa using heq
              have hsn : Hid (seen (m.take (k + 1)) nm y1.a y2 = seen (m.take k) nm y1.a y2) := seen_ne m nm y1.a k y2 hkl heq
              clear heq
              go_wp2_with fail
              go_roundw
              case rel => exact ⟨k + 1, by omega, by go_num, by rw [hsn.out]; exact hdi, hki⟩
              case measure => simp [intOf]; omega
          · have e : k = m.length := by omega
            subst e
            have td : decide (m.length < m.length) = false := by simp
            rw [List.take_length] at hdi
            have hg4 := gd_seen m nm y1.a (Gd.refl Hg3.out.1)
            have hy3a := hg4.1.1
            have hy3b := hg4.2
            have Hg4 : Hid (Inv s (seen m nm y1.a y2)) := hg4.1
            clear hg4
            generalize seen m nm y1.a y2 = y3 at *
            go_wp2_with fail
            refine (blanks_any b s y3 it false _ hs (by omega) hdi.out).mono ?_
            rintro e w4 ⟨rfl, hd4, hk4⟩
            have hg5 := gd_blanks (Gd.refl Hg4.out) false
            have hd4' : Hid (RD w4 b s (rblanks s y3 false) it) := hd4
            have hy4a := hg5.1.1
            have hy4b := hg5.2
            have Hg5 : Hid (Inv s (rblanks s y3 false)) := hg5.1
            clear hd4 hg5
            generalize rblanks s y3 false = y4 at *
            go_wp2_with fail
            refine (must_any b s y4 it 61 _ hs (by omega) hd4'.out).mono ?_
            rintro e w5 ⟨rfl, hd5, hk5⟩
            have hg6 := gd_must (Gd.refl Hg5.out) 61
            have hd5' : Hid (RD w5 b s (rmust s y4 61) it) := hd5
            have hy5a := hg6.1.1
            have hy5b := hg6.2
            have Hg6 : Hid (Inv s (rmust s y4 61)) := hg6.1
            clear hd5 hg6
            generalize rmust s y4 61 = y5 at *
            go_wp2_with fail
            refine (blanks_any b s y5 it false _ hs (by omega) hd5'.out).mono ?_
            rintro e w6 ⟨rfl, hd6, hk6⟩
            have hg7 := gd_blanks (Gd.refl Hg6.out) false
            have hd6' : Hid (RD w6 b s (rblanks s y5 false) it) := hd6
            have hy6a := hg7.1.1
            have hy6b := hg7.2
            have Hg7 : Hid (Inv s (rblanks s y5 false)) := hg7.1
            clear hd6 hg7
            generalize rblanks s y5 false = y6 at *
            go_wp2_with fail
            refine (HV.out y6 _ Hg7.out hd6'.out).mono ?_
            rintro e w7 ⟨p, rfl, hd7, hk7, hr7⟩
            have hg8 := hgf.out y6 Hg7.out
            have hd7' : Hid (RD w7 b s (rval s d (nest + 1) y6).1 it) := hd7
            have hr7' : Hid (RVal d w6.heap.size w7.heap.size w7 p (rval s d (nest + 1) y6).2) := hr7
            have hy7a := hg8.1.1
            have hy7b := hg8.2
            have Hg8 : Hid (Inv s (rval s d (nest + 1) y6).1) := hg8.1
            clear hd7 hr7 hg8
            generalize (rval s d (nest + 1) y6).1 = y7 at *
            generalize (rval s d (nest + 1) y6).2 = u at *
            have hz67 := hk7.size
            have hki6 : Kb b w2 w6 := ((hki.trans hk4).trans hk5).trans hk6
            have hz26 := hki6.size
            have hki7 : Kb b w2 w7 := hki6.trans hk7
            have hln7 : Hid (LN w7 w.heap.size 103 lv (.slice adn m.length capn)) := hln2.out.kb hki7 hq2 hqb
            have hown7 : Hid (w7.ownsRow (w.heap.size + 1) 70 1 lv ps.length (ps.map ptr)) := owns_kb hown2.out hki7 (by omega)
            have hnown7 : Hid (w7.ownsRow (w.heap.size + 1) 9 1 (.slice adn m.length capn) m.length (m.map .string)) := owns_kb hnown2.out hki7 (by omega)
            have hch7 : Hid (Ch d w7 w.heap.size lv (.slice adn m.length capn) (ps ++ [p]) (l ++ [u])) :=
              (hch2.out.kb hki7 (by omega)).snoc (by omega) (Nat.le_refl _) (fun k hk => hk.elim (fun e => by have := (hown2.out.lt k e).2; omega) (fun e => by have := (hnown2.out.lt k e).2; omega)) hr7'.out
            have hk07 : Kb b w w7 := hk0.trans hki7
            have hz7 : w.heap.size < w7.heap.size := by omega
            clear hln2 hown2 hnown2 hch2 hk0 hki hk4 hk5 hk6 hk7 hki6 hki7 hlni hnowni hc4 hdi hd4' hd5' hd6' hr7'
            obtain ⟨adl, capl, hlv⟩ := owns_form hown7.out
            subst hlv
            have c74 := hln7.out.c4
            have c7F := hln7.out.F
            have hlt7 := hd7'.out.lt
            go_wp2_with (at_builtin; refine wpList_append_own_at _ rfl (.tmp 82) (.tmp 84) 38 rfl (w.heap.size + 1) 9 j0 (.string ⟨#[]⟩) 1 16 Tryz.underlying38 hj hy0 hy1 hy2 rfl (by decide) _ _ _ rfl (hnown7.out.alloc _) ⟨w7.heap.size, 0, none⟩ 1 1 [.string nm] rfl rfl (cell_one_new _ _ _) (by intro u hu; simp at hu; subst hu; rfl) (by unfold maxLen; omega) (by omega) (by simp; omega) ?_; intro v1 w8 hown8 hgrow8 hnil8 hat8; refine Hid.out ?_)
            have hln8 : Hid (LN w8 w.heap.size 103 (.slice adl ps.length capl) (.slice adn m.length capn)) := hln7.out.of_block ((hgrow8.block w.heap.size (by simp; omega) (owns_ne hnown7.out (by omega))).trans (Below.heap_alloc _ _ _ (by omega)))
            have hch8 : Hid (Ch d w8 w.heap.size (.slice adl ps.length capl) v1 (ps ++ [p]) (l ++ [u])) := (hch7.out.alloc _).growN hgrow8 hat8
            have hd8 : Hid (RD w8 b s y7 it) := (hd7'.out.alloc _).grown hgrow8 (owns_ne hnown7.out (by omega))
            have hk8 : Hid (Kb b w w8) := (hk07.alloc hlt7 _).grown hlt hgrow8 (fun k hk => by have := (hnown7.out.lt k hk).1; omega)
            have hz8 : w.heap.size < w8.heap.size := by have := hgrow8.size; simp at this; omega
            have hownl8 : Hid (w8.ownsRow (w.heap.size + 1) 70 1 (.slice adl ps.length capl) ps.length (ps.map ptr)) := owns_grown (hown7.out.alloc _) hgrow8 (fun k hk => owns_apart hown7.out hnown7.out (by decide) k hk)
            have hnown8 : Hid (w8.ownsRow (w.heap.size + 1) 9 1 v1 (m ++ [nm]).length ((m ++ [nm]).map .string)) := by
              unfold Hid
              simpa using hown8
            clear hown8 hgrow8 hnil8 hat8 hch7 hown7 hnown7 hln7 c74 c7F hk07 hd7'
            obtain ⟨ad8, cap8, hv1⟩ := owns_form hnown8.out
            subst hv1
            have Hml : Hid ((m ++ [nm]).length = m.length + 1) := by unfold Hid; simp
            have Hpl : Hid ((ps ++ [p]).length = ps.length + 1) := by unfold Hid; simp
            have HS : Hid _ := hln8.out.setN (.slice ad8 (m ++ [nm]).length cap8)
            have HD : Hid _ := hd8.out.set_other w.heap.size 4 (.slice ad8 (m ++ [nm]).length cap8) hqb
            have HC : Hid _ := Ch.set hch8.out 4 (.slice ad8 (m ++ [nm]).length cap8)
            have HO : Hid _ := owns_set_other hownl8.out w.heap.size 4 (.slice ad8 (m ++ [nm]).length cap8) (by omega)
            have HN : Hid _ := owns_set_other hnown8.out w.heap.size 4 (.slice ad8 (m ++ [nm]).length cap8) (by omega)
            have HK : Hid _ := hk8.out.set_new hlt w.heap.size 4 (.slice ad8 (m ++ [nm]).length cap8) (Nat.le_refl _)
            have c84 := hln8.out.c4
            have c83 := hln8.out.c3
            have c8F := hln8.out.F
            have hlt8 := hd8.out.lt
            have hz9e : (w8.setCell ⟨w.heap.size, 4, none⟩ (.slice ad8 (m ++ [nm]).length cap8)).heap.size = w8.heap.size := by simp [World.setCell]
            have Hz9 : Hid _ := hz9e
            clear hz9e hch8 hownl8 hnown8 hd8 hk8
            generalize hm2 : m ++ [nm] = m2 at *
            have Hm2 : Hid (m ++ [nm] = m2) := hm2
            clear hm2
            unfold Hid
            go_wp2_with (at_builtin; refine wpList_append_own_at _ rfl (.tmp 92) (.tmp 94) 132 rfl (w.heap.size + 1) 70 i0 (.pointer none) 1 8 Tryz.underlying132 hi hz0 hz1 hz2 rfl (by decide) _ _ _ rfl (World.ownsRow.alloc HO.out _) ⟨w8.heap.size, 0, none⟩ 1 1 [ptr p] rfl rfl (by intro j u hj; have := cell_one_new (w8.setCell ⟨w.heap.size, 4, none⟩ (.slice ad8 m2.length cap8)) (ptr p) 70 j u hj; rw [Hz9.out] at this; exact this) (by intro u hu; simp at hu; subst hu; rfl) (by unfold maxLen; omega) (by omega) (by simp; omega) ?_; intro v2 w9 hown9 hgrow9 hnil9 hat9; refine Hid.out ?_)
            have hq8 : w.heap.size < (w8.setCell ⟨w.heap.size, 4, none⟩ (.slice ad8 m2.length cap8)).heap.size := by rw [Hz9.out]; exact hz8
            have hln9 : Hid (LN w9 w.heap.size 103 (.slice adl ps.length capl) (.slice ad8 m2.length cap8)) := LN.of_block HS.out ((hgrow9.block w.heap.size (Nat.lt_of_lt_of_le hq8 (by simp)) (owns_ne HO.out (by omega))).trans (Below.heap_alloc _ _ _ hq8))
            have hch9 : Hid (Ch d w9 w.heap.size v2 (.slice ad8 m2.length cap8) (ps ++ [p]) (l ++ [u])) := Ch.growL (Ch.alloc HC.out _) hgrow9 hat9
            have hd9 : Hid (RD w9 b s y7 it) := RD.grown (RD.alloc HD.out _) hgrow9 (owns_ne HO.out (by omega))
            have hk9 : Hid (Kb b w w9) := Kb.grown (Kb.alloc HK.out (RD.lt HD.out) _) hlt hgrow9 (fun k hk => by have := (World.ownsRow.lt HO.out k hk).1; omega)
            have hz9 : w.heap.size < w9.heap.size := by have := hgrow9.size; have := Hz9.out; simp at *; omega
            have hnown9 : Hid (w9.ownsRow (w.heap.size + 1) 9 1 (.slice ad8 m2.length cap8) m2.length (m2.map .string)) := owns_grown (World.ownsRow.alloc HN.out _) hgrow9 (fun k hk => owns_apart HN.out HO.out (by decide) k hk)
            have hown9' : Hid (w9.ownsRow (w.heap.size + 1) 70 1 v2 (ps ++ [p]).length ((ps ++ [p]).map ptr)) := by
              unfold Hid
              simpa using hown9
            clear hown9 hgrow9 hnil9 hat9 HS HD HC HO HN HK Hz9 hq8 c84 c83 c8F hln8 hz8 hlt8
            obtain ⟨ad9, cap9, hv2⟩ := owns_form hown9'.out
            subst hv2
            have HS : Hid _ := hln9.out.setL (.slice ad9 (ps ++ [p]).length cap9)
            have HD : Hid _ := hd9.out.set_other w.heap.size 3 (.slice ad9 (ps ++ [p]).length cap9) hqb
            have HC : Hid _ := Ch.set hch9.out 3 (.slice ad9 (ps ++ [p]).length cap9)
            have HO : Hid _ := owns_set_other hown9'.out w.heap.size 3 (.slice ad9 (ps ++ [p]).length cap9) (by omega)
            have HN : Hid _ := owns_set_other hnown9.out w.heap.size 3 (.slice ad9 (ps ++ [p]).length cap9) (by omega)
            have HK : Hid _ := hk9.out.set_new hlt w.heap.size 3 (.slice ad9 (ps ++ [p]).length cap9) (Nat.le_refl _)
            have c93 := hln9.out.c3
            have c9F := hln9.out.F
            have Hz5 : Hid (w.heap.size < (w9.setCell ⟨w.heap.size, 3, none⟩ (.slice ad9 (ps ++ [p]).length cap9)).heap.size) := by
              unfold Hid
              simpa [World.setCell] using hz9
            clear hch9 hown9' hnown9 hd9 hk9
            generalize ps ++ [p] = ps2 at *
            generalize hl2 : l ++ [u] = l2 at *
            have Hl2 : Hid (l ++ [u] = l2) := hl2
            clear hl2
            unfold Hid
            go_wp2_with fail
            refine (blanks_any b s y7 it false _ hs (by omega) HD.out).mono ?_
            rintro e wa ⟨rfl, hda, hka⟩
            have hg9 := gd_blanks (Gd.refl Hg8.out) false
            have hda' : Hid (RD wa b s (rblanks s y7 false) it) := hda
            have hy8a := hg9.1.1
            have hy8b := hg9.2
            have Hg9 : Hid (Inv s (rblanks s y7 false)) := hg9.1
            clear hda hg9
            generalize rblanks s y7 false = y8 at *
            have hAa := hda'.out.A
            have hFa := hda'.out.F
            have hlta := hda'.out.lt
            have HSa : Hid (LN wa w.heap.size 103 (.slice ad9 ps2.length cap9) (.slice ad8 m2.length cap8)) := LN.kb HS.out hka Hz5.out hqb
            have HCa : Hid (Ch d wa w.heap.size (.slice ad9 ps2.length cap9) (.slice ad8 m2.length cap8) ps2 l2) := Ch.kb HC.out hka (by omega)
            have HOa : Hid (wa.ownsRow (w.heap.size + 1) 70 1 (.slice ad9 ps2.length cap9) ps2.length (ps2.map ptr)) := owns_kb HO.out hka (by omega)
            have HNa : Hid (wa.ownsRow (w.heap.size + 1) 9 1 (.slice ad8 m2.length cap8) m2.length (m2.map .string)) := owns_kb HN.out hka (by omega)
            have HKa : Hid (Kb b w wa) := Kb.trans HK.out hka
            have hza : w.heap.size < wa.heap.size := Nat.lt_of_lt_of_le Hz5.out hka.size
            clear HS HD HC HO HN HK Hz5 hka hln9 c93 c9F hz9
            go_wp2_with fail
            refine (is_any b s y8 it 44 _ hs (by omega) hda'.out).mono ?_
            rintro e wb ⟨rfl, kb, rfl⟩
            cases hrb : ris s y8 44
            · have hfin : Hid (rgroup s (rval s d (nest + 1)) x = (rmust s y8 125, ⟨103, 0, ⟨#[]⟩, l2, m2⟩)) := by
                unfold Hid
                rw [hrg2.out, hrun.out, hstep.out, if_neg (by rw [He.out]; simp), hmem.out]
                simp only [hrb, Bool.false_eq_true, if_false, Hl2.out, Hm2.out]
              go_wp2_with fail
              refine (must_any b s y8 it 125 _ hs (by omega) (hda'.out.drewN kb)).mono ?_
              rintro e wc ⟨rfl, hdc, hkc⟩
              have hdc' : Hid (RD wc b s (rmust s y8 125) it) := hdc
              clear hdc
              have hkk : Hid (Kb b wa wc) := ((Kb.refl _ _).drewN kb).trans hkc
              go_wp2_with fail
              go_ret
              refine ⟨_, rfl, by rw [hfin.out]; exact hdc'.out, HKa.out.trans hkk.out, ?_⟩
              rw [hfin.out]
              exact (HCa.out.kb hkk.out (by omega)).val (HSa.out.kb hkk.out hza hqb) (Nat.le_refl _) (Nat.lt_of_lt_of_le hza hkk.out.size) rfl (owns_kb HOa.out hkk.out (by omega)) (owns_kb HNa.out hkk.out (by omega))
            · have hltb := ris_lt hrb
              obtain ⟨n', rfl⟩ : ∃ n', n = n' + 1 := ⟨n - 1, by omega⟩
              have hfin : Hid (rgroupLoop s (rval s d (nest + 1)) (s.size + 3 - x.a) x1 [] [] = rgroupLoop s (rval s d (nest + 1)) (n' + 1) ⟨y8.a + 1, y8.e, y8.p⟩ l2 m2) := by
                unfold Hid
                rw [hrun.out, hstep.out, if_neg (by rw [He.out]; simp), hmem.out]
                simp only [hrb, if_true, Hl2.out, Hm2.out]
              have hin : Hid (Inv s ⟨y8.a + 1, y8.e, y8.p⟩) := (gd_step (Gd.refl Hg9.out) hrb).1
              have hkk : Hid (Kb b wa ((wa.drewN kb).setCell ⟨b, 1, none⟩ (.int .i64 ((y8.a : Int) + 1)))) := ((Kb.refl _ _).drewN kb).set _ _
              go_wp2_with fail
              go_roundw
              case rel => exact ⟨⟨y8.a + 1, y8.e, y8.p⟩, l2, m2, .slice ad9 ps2.length cap9, .slice ad8 m2.length cap8, ps2, n', hda'.out.step kb, HKa.out.trans hkk.out, HSa.out.kb hkk.out hza hqb, Nat.lt_of_lt_of_le hza hkk.out.size, owns_kb HOa.out hkk.out (by omega), owns_kb HNa.out hkk.out (by omega), HCa.out.kb hkk.out (by omega), hfin, hin, by simp only; omega, by have := Hpl.out; simp only; omega, by have := Hml.out; simp only; omega⟩
              case measure => rw [(hda'.out.step kb).atOf, h1.out.atOf]; simp only; omega
      · have te : ((y.e : Int) == 0) = false := by simpa using he
        have hfin : Hid (rgroup s (rval s d (nest + 1)) x = (rmust s y 125, ⟨103, 0, ⟨#[]⟩, l, m⟩)) := by
          unfold Hid
          rw [hrg2.out, hrun.out, hstep.out, if_pos he]
        clear he
        go_wp2_with fail
        refine (must_any b s y it 125 _ hs (by omega) h1.out).mono ?_
        rintro e w3 ⟨rfl, hd3, hk3⟩
        have hd3' : Hid (RD w3 b s (rmust s y 125) it) := hd3
        clear hd3
        go_wp2_with fail
        go_ret
        refine ⟨_, rfl, by rw [hfin.out]; exact hd3'.out, hk.trans hk3, ?_⟩
        rw [hfin.out]
        exact (hch.out.kb hk3 (by omega)).val (hln.out.kb hk3 hq hqb) (Nat.le_refl _) (Nat.lt_of_lt_of_le hq hk3.size) rfl (owns_kb hown.out hk3 (by omega)) (owns_kb hnown.out hk3 (by omega))
  · have hfin : Hid (rgroup s (rval s d (nest + 1)) x = (⟨x1.a + 1, x1.e, x1.p⟩, ⟨103, 0, ⟨#[]⟩, [], []⟩)) := by
      unfold Hid
      rw [hrg.out, if_pos hr1]
    go_wp2_with fail
    go_ret
    have hkk : Kb b w1 ((w1.drewN k2).setCell ⟨b, 1, none⟩ (.int .i64 ((x1.a : Int) + 1))) := ((Kb.refl _ _).drewN k2).set _ _
    refine ⟨_, rfl, by rw [hfin.out]; exact hd1'.out.step k2, HKB1.out.trans hkk, ?_⟩
    rw [hfin.out]
    exact (Ch.nil d _ _ _ _).val (HLN1.out.kb hkk hz1w hqb) (Nat.le_refl _) (Nat.lt_of_lt_of_le hz1w hkk.size) rfl (World.ownsRow_nil _ _ _ _) (World.ownsRow_nil _ _ _ _)
end Go.Proofs.YtdebjhdafnpfkaaGreatDoor
