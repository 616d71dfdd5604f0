import Derived.Test.YtdebjhdafnpfkabGreatDoorK07
import Derived.Test.YtdebjhdafnpfkabGreatDoorK08
import Derived.Test.YtdebjhdafnpfkabGreatDoorK02
import Derived.Test.YtdebjhdafnpfkabGreatDoorK03
import Derived.Laws.IdiomStrings
namespace Go.Proofs.YtdebjhdafnpfkabGreatDoor
open Go.ChangeShapes Go.WideShapes Go.ChangeAt Go.RowKit
set_option linter.unusedVariables false
set_option linter.unusedSimpArgs false
theorem ext_bt0 (s : ByteArray) (a y : Nat) (h : a < y) (hy : y ≤ s.size) : bt (s.extract a y) 0 = bt s a := by
  have h1 : 0 < (s.extract a y).size := by rw [size_ext s a y hy]; omega
  unfold bt
  rw [dif_pos h1, dif_pos (by omega), ByteArray.getElem_extract]
  rfl
theorem trim_one (s : ByteArray) (a y : Nat) (c : UInt8) (h : a < y) (hy : y ≤ s.size) (hc : bt s a = c.toNat) : (⟨(Lib.trimPrefix (s.extract a y).data.toList [c]).toArray⟩ : ByteArray) = s.extract (a + 1) y := by
  have hp : Lib.hasPrefix (s.extract a y).data.toList [c] = true := by
    rw [hasP_one, decide_eq_true_eq, ext_bt0 s a y h hy, size_ext s a y hy]
    exact ⟨by omega, hc⟩
  apply bytes_ext
  show (Lib.trimPrefix (s.extract a y).data.toList [c]).toArray.toList = _
  unfold Lib.trimPrefix
  rw [if_pos hp, Lib.extract_data, Lib.extract_data, List.length_singleton, List.drop_take, List.drop_drop, Nat.sub_sub]
theorem trim_none (t : ByteArray) (c : UInt8) (h : t.size = 0 ∨ bt t 0 ≠ c.toNat) : (⟨(Lib.trimPrefix t.data.toList [c]).toArray⟩ : ByteArray) = t := by
  have hp : Lib.hasPrefix t.data.toList [c] = false := by
    rw [hasP_one, decide_eq_false_iff_not]
    rintro ⟨h1, h2⟩
    rcases h with h | h
    · exact h1 h
    · exact h h2
  apply bytes_ext
  unfold Lib.trimPrefix
  rw [if_neg (by rw [hp]; simp)]
/-- What is no `true` and no `false`. -/
theorem rwordAt_num (s : ByteArray) (a0 : Nat) (minus plus : Bool) (x1 : St) (h : ¬ (minus = false ∧ plus = false ∧ (s.extract x1.a (scan letterB s x1.a) = trueS ∨ s.extract x1.a (scan letterB s x1.a) = falseS))) :
    rwordAt s a0 minus plus x1 = if rnumber (s.extract x1.a (scan letterB s x1.a)) = false then (rno ⟨scan letterB s x1.a, x1.e, x1.p⟩ 3 a0, V0)
      else (if 999999999999999 < rdig (s.extract x1.a (scan letterB s x1.a)) (s.extract x1.a (scan letterB s x1.a)).size then rno ⟨scan letterB s x1.a, x1.e, x1.p⟩ 4 a0 else ⟨scan letterB s x1.a, x1.e, x1.p⟩,
        ⟨110, if minus = true then - rdig (s.extract x1.a (scan letterB s x1.a)) (s.extract x1.a (scan letterB s x1.a)).size else rdig (s.extract x1.a (scan letterB s x1.a)) (s.extract x1.a (scan letterB s x1.a)).size, ⟨#[]⟩, [], []⟩) := by
  unfold rwordAt rrun
  simp only
  rw [if_neg h]
/-- The word is a number, or it is wrong. -/
def WordP (b : Nat) (s : ByteArray) (x : St) (w : World) (e : Ending) (w' : World) : Prop :=
  (∃ v, e = .returned v ∧ PLeaf v (rword s x).2 ∧ POk s b w w' (rword s x).1) ∨ PBad s b w e w' (rword s x).1
theorem first_ne (t : ByteArray) (u : ByteArray) (h : bt t 0 ≠ bt u 0) : t ≠ u := fun e => h (by rw [e])
theorem bt_true : bt trueS 0 = 116 := by decide
theorem bt_false : bt falseS 0 = 102 := by decide
set_option maxHeartbeats 2000000 in
set_option maxRecDepth 100000 in
theorem readWord_plus (b : Nat) (s : ByteArray) (x : St) (w : World) (m : Int) (hs : s.size ≤ 4000) (he : x.e = 0) (ha : x.a ≤ s.size) (hG : 1 < b)
    (hm : w.cell? ⟨1, 0, none⟩ = some (.int .i64 m)) (hc : bt s x.a = 43) (h : PC w b s x.a) :
    Calls Tryz.prog 90 #[.pointer (some ⟨b, 0, none⟩)] w fun e w' => WordP b s x w e w' := by
  have h' : Hid (PC w b s x.a) := h
  have hA := h.A
  have hlt := h.lt
  have HE : Hid (x.e = 0) := he
  have Hm : Hid _ := hm
  have hmlt := lt_of_cell hm
  clear h he hm
  have hl : x.a < s.size := bt_lt' s x.a 43 hc (by decide)
  have t1 : ((bt s x.a : Int) == 43) = true := by simp; omega
  have t2 : ((bt s x.a : Int) == 45) = false := by simp; omega
  have hA1 : x.a + 1 ≤ s.size := hl
  have HL1 : Hid (lineAt s (x.a + 1) = lineAt s x.a) := by
    show (if bt s x.a = 10 then _ else _) = _
    rw [if_neg (by omega)]
  have R0 : Hid (rword s x = rwordAt s x.a false true ⟨x.a + 1, x.e, x.p⟩) := by
    unfold Hid rword
    rw [ris_pk s x 45 HE.out (by decide), ris_pk s x 43 HE.out (by decide), hc]
    rfl
  have Hc : Hid (bt s x.a = 43) := hc
  clear hc
  have h1 := scan_ge letterB s (x.a + 1)
  have h2 := scan_le letterB s (x.a + 1) hA1
  have hL : Hid (lineAt s (scan letterB s (x.a + 1)) = lineAt s x.a) := (lineAt_scan _ _ (by decide) _).trans HL1.out
  go_enter Tryz.func90, Tryz.ntmps90
  go_wp2_with fail
  refine (peek_any b s x.a _ hs ha h'.out).mono ?_
  rintro e w1 ⟨rfl, n, rfl⟩
  go_wp2_with fail
  refine (step_any b s x.a _ hs hl (h'.out.drewN n)).mono ?_
  rintro e w2 ⟨rfl, hp2, hk2⟩
  have HPC : Hid (PC w2 b s (x.a + 1)) := hp2
  have HKC : Hid (Kc b w w2) := ((Kc.refl _ _).drewN n).trans hk2
  clear hp2 hk2
  go_wp2_with fail
  refine (take_isOfName b s (x.a + 1) _ hs hA1 HPC.out).mono ?_
  rintro e w3 ⟨rfl, h3, hk3⟩
  obtain ⟨hT3, hA3, hL3, hF3, hlt3⟩ := h3
  have h3' : Hid (PC w3 b s (scan letterB s (x.a + 1))) := ⟨hT3, hA3, hL3, hF3, hlt3⟩
  have HK3 : Hid (Kc b w w3) := HKC.out.trans hk3
  clear hk3 HKC HPC
  have h1' : x.a ≤ scan letterB s (x.a + 1) := by omega
  generalize hy : scan letterB s (x.a + 1) = y at *
  have Hy : Hid _ := hy
  clear hy
  go_wp2_with fail
  go_quiet (fail)
  have HPW : Hid (PC (w3.drewN nq) b s y) := h3'.out.drewN nq
  have HKW : Hid (Kc b w (w3.drewN nq)) := HK3.out.drewN nq
  generalize w3.drewN nq = w4 at *
  have hm4 : Hid (w4.cell? ⟨1, 0, none⟩ = some (.int .i64 m)) := by
    unfold Hid
    rw [HKW.out.kb.cell hmlt (by omega)]
    exact Hm.out
  clear h3' HK3 hT3 hA3 hL3 hF3 hlt3 hA
  have hsz : (s.extract x.a y).size = y - x.a := size_ext s x.a y (by omega)
  have Hsz : Hid _ := hsz
  clear hsz
  have hb0 : bt (s.extract x.a y) 0 = 43 := by rw [ext_bt0 s x.a y (by omega) (by omega)]; exact Hc.out
  have tT : ((s.extract x.a y).toList == [116, 114, 117, 101]) = false := by rw [true_beq]; exact decide_eq_false (first_ne _ _ (by rw [hb0, bt_true]; decide))
  have tF : ((s.extract x.a y).toList == [102, 97, 108, 115, 101]) = false := by rw [false_beq]; exact decide_eq_false (first_ne _ _ (by rw [hb0, bt_false]; decide))
  have C1 : Hid (Lib.hasPrefix (s.extract x.a y).data.toList [45] = false) := by
    unfold Hid
    rw [hasP_one, hb0]
    exact decide_eq_false (fun h => by have := h.2; simp at this)
  have C2 : Hid ((⟨(Lib.trimPrefix (s.extract x.a y).data.toList (if false = true then [45] else [43])).toArray⟩ : ByteArray) = s.extract (x.a + 1) y) := trim_one s x.a y 43 (by omega) (by omega) Hc.out
  have R : Hid (rword s x = if rnumber (s.extract (x.a + 1) y) = false then (rno ⟨y, x.e, x.p⟩ 3 x.a, V0) else (if 999999999999999 < rdig (s.extract (x.a + 1) y) (s.extract (x.a + 1) y).size then rno ⟨y, x.e, x.p⟩ 4 x.a else ⟨y, x.e, x.p⟩, ⟨110, if false = true then - rdig (s.extract (x.a + 1) y) (s.extract (x.a + 1) y).size else rdig (s.extract (x.a + 1) y) (s.extract (x.a + 1) y).size, ⟨#[]⟩, [], []⟩)) := by
    unfold Hid
    rw [R0.out, rwordAt_num _ _ _ _ _ (by simp)]
    simp only [Hy.out]
  clear hb0
  have htt : (s.extract (x.a + 1) y).size ≤ 4000 := by rw [size_ext s (x.a + 1) y (by omega)]; omega
  have Htt : Hid _ := htt
  clear htt
  generalize s.extract (x.a + 1) y = tt at *
  have htt := Htt.out
  clear Htt
  generalize hwd : s.extract x.a y = word at *
  have Hwd : Hid _ := hwd
  clear hwd
  go_wp2_with fail
  refine (toNumber_any b s y word tt false _ m hs (by omega) hG C1.out C2.out hm4.out HPW.out).mono ?_
  rintro e w5 ⟨hN⟩
  rcases hN with ⟨n1, n2, rfl, n4, n5⟩ | ⟨n1, q, hq⟩ | ⟨n1, n2, q, hq⟩
  · have HN : Hid (rnumber tt = true ∧ rdig tt tt.size ≤ 999999999999999 ∧ PC w5 b s y ∧ Kc b w4 w5) := ⟨n1, n2, n4, n5⟩
    clear n1 n2 n4 n5
    go_wp2_with fail
    go_ret
    refine .inl ⟨_, rfl, ?_, ?_⟩
    · rw [R.out, if_neg (by rw [HN.out.1]; simp)]
      exact leaf_num _
    · rw [R.out, if_neg (by rw [HN.out.1]; simp), if_neg (by have := HN.out.2.1; omega)]
      exact ⟨HE.out, HN.out.2.2.1, HKW.out.trans HN.out.2.2.2⟩
  · have he' := hq.e
    subst he'
    refine ⟨rfl, .inr ?_⟩
    rw [R.out, if_pos n1, rno_on _ _ _ (by exact HE.out)]
    rw [hL.out] at hq
    exact ⟨by simp, q, hq.trans HKW.out.kb⟩
  · have he' := hq.e
    subst he'
    refine ⟨rfl, .inr ?_⟩
    rw [R.out, if_neg (by rw [n1]; simp), if_pos n2, rno_on _ _ _ (by exact HE.out)]
    rw [hL.out] at hq
    exact ⟨by simp, q, hq.trans HKW.out.kb⟩
set_option maxHeartbeats 2000000 in
set_option maxRecDepth 100000 in
theorem readWord_minus (b : Nat) (s : ByteArray) (x : St) (w : World) (m : Int) (hs : s.size ≤ 4000) (he : x.e = 0) (ha : x.a ≤ s.size) (hG : 1 < b)
    (hm : w.cell? ⟨1, 0, none⟩ = some (.int .i64 m)) (hc : bt s x.a = 45) (h : PC w b s x.a) :
    Calls Tryz.prog 90 #[.pointer (some ⟨b, 0, none⟩)] w fun e w' => WordP b s x w e w' := by
  have h' : Hid (PC w b s x.a) := h
  have hA := h.A
  have hlt := h.lt
  have HE : Hid (x.e = 0) := he
  have Hm : Hid _ := hm
  have hmlt := lt_of_cell hm
  clear h he hm
  have hl : x.a < s.size := bt_lt' s x.a 45 hc (by decide)
  have t1 : ((bt s x.a : Int) == 45) = true := by simp; omega
  have t2 : ((bt s x.a : Int) == 43) = false := by simp; omega
  have hA1 : x.a + 1 ≤ s.size := hl
  have HL1 : Hid (lineAt s (x.a + 1) = lineAt s x.a) := by
    show (if bt s x.a = 10 then _ else _) = _
    rw [if_neg (by omega)]
  have R0 : Hid (rword s x = rwordAt s x.a true false ⟨x.a + 1, x.e, x.p⟩) := by
    unfold Hid rword
    rw [ris_pk s x 45 HE.out (by decide), ris_pk s x 43 HE.out (by decide), hc]
    rfl
  have Hc : Hid (bt s x.a = 45) := hc
  clear hc
  have h1 := scan_ge letterB s (x.a + 1)
  have h2 := scan_le letterB s (x.a + 1) hA1
  have hL : Hid (lineAt s (scan letterB s (x.a + 1)) = lineAt s x.a) := (lineAt_scan _ _ (by decide) _).trans HL1.out
  go_enter Tryz.func90, Tryz.ntmps90
  go_wp2_with fail
  refine (peek_any b s x.a _ hs ha h'.out).mono ?_
  rintro e w1 ⟨rfl, n, rfl⟩
  go_wp2_with fail
  refine (peek_any b s x.a _ hs ha (h'.out.drewN n)).mono ?_
  rintro e w1 ⟨rfl, n2, hw2⟩
  rw [World.drewN_drewN] at hw2
  subst hw2
  go_wp2_with fail
  refine (step_any b s x.a _ hs hl (h'.out.drewN (n + n2))).mono ?_
  rintro e w2 ⟨rfl, hp2, hk2⟩
  have HPC : Hid (PC w2 b s (x.a + 1)) := hp2
  have HKC : Hid (Kc b w w2) := ((Kc.refl _ _).drewN (n + n2)).trans hk2
  clear hp2 hk2
  go_wp2_with fail
  refine (take_isOfName b s (x.a + 1) _ hs hA1 HPC.out).mono ?_
  rintro e w3 ⟨rfl, h3, hk3⟩
  obtain ⟨hT3, hA3, hL3, hF3, hlt3⟩ := h3
  have h3' : Hid (PC w3 b s (scan letterB s (x.a + 1))) := ⟨hT3, hA3, hL3, hF3, hlt3⟩
  have HK3 : Hid (Kc b w w3) := HKC.out.trans hk3
  clear hk3 HKC HPC
  have h1' : x.a ≤ scan letterB s (x.a + 1) := by omega
  generalize hy : scan letterB s (x.a + 1) = y at *
  have Hy : Hid _ := hy
  clear hy
  go_wp2_with fail
  go_quiet (fail)
  have HPW : Hid (PC (w3.drewN nq) b s y) := h3'.out.drewN nq
  have HKW : Hid (Kc b w (w3.drewN nq)) := HK3.out.drewN nq
  generalize w3.drewN nq = w4 at *
  have hm4 : Hid (w4.cell? ⟨1, 0, none⟩ = some (.int .i64 m)) := by
    unfold Hid
    rw [HKW.out.kb.cell hmlt (by omega)]
    exact Hm.out
  clear h3' HK3 hT3 hA3 hL3 hF3 hlt3 hA
  have hsz : (s.extract x.a y).size = y - x.a := size_ext s x.a y (by omega)
  have Hsz : Hid _ := hsz
  clear hsz
  have hb0 : bt (s.extract x.a y) 0 = 45 := by rw [ext_bt0 s x.a y (by omega) (by omega)]; exact Hc.out
  have tT : ((s.extract x.a y).toList == [116, 114, 117, 101]) = false := by rw [true_beq]; exact decide_eq_false (first_ne _ _ (by rw [hb0, bt_true]; decide))
  have tF : ((s.extract x.a y).toList == [102, 97, 108, 115, 101]) = false := by rw [false_beq]; exact decide_eq_false (first_ne _ _ (by rw [hb0, bt_false]; decide))
  have C1 : Hid (Lib.hasPrefix (s.extract x.a y).data.toList [45] = true) := by
    unfold Hid
    rw [hasP_one, hb0]
    exact decide_eq_true ⟨by have := Hsz.out; omega, rfl⟩
  have C2 : Hid ((⟨(Lib.trimPrefix (s.extract x.a y).data.toList (if true = true then [45] else [43])).toArray⟩ : ByteArray) = s.extract (x.a + 1) y) := trim_one s x.a y 45 (by omega) (by omega) Hc.out
  have R : Hid (rword s x = if rnumber (s.extract (x.a + 1) y) = false then (rno ⟨y, x.e, x.p⟩ 3 x.a, V0) else (if 999999999999999 < rdig (s.extract (x.a + 1) y) (s.extract (x.a + 1) y).size then rno ⟨y, x.e, x.p⟩ 4 x.a else ⟨y, x.e, x.p⟩, ⟨110, if true = true then - rdig (s.extract (x.a + 1) y) (s.extract (x.a + 1) y).size else rdig (s.extract (x.a + 1) y) (s.extract (x.a + 1) y).size, ⟨#[]⟩, [], []⟩)) := by
    unfold Hid
    rw [R0.out, rwordAt_num _ _ _ _ _ (by simp)]
    simp only [Hy.out]
  clear hb0
  have htt : (s.extract (x.a + 1) y).size ≤ 4000 := by rw [size_ext s (x.a + 1) y (by omega)]; omega
  have Htt : Hid _ := htt
  clear htt
  generalize s.extract (x.a + 1) y = tt at *
  have htt := Htt.out
  clear Htt
  generalize hwd : s.extract x.a y = word at *
  have Hwd : Hid _ := hwd
  clear hwd
  go_wp2_with fail
  refine (toNumber_any b s y word tt true _ m hs (by omega) hG C1.out C2.out hm4.out HPW.out).mono ?_
  rintro e w5 ⟨hN⟩
  rcases hN with ⟨n1, n2, rfl, n4, n5⟩ | ⟨n1, q, hq⟩ | ⟨n1, n2, q, hq⟩
  · have HN : Hid (rnumber tt = true ∧ rdig tt tt.size ≤ 999999999999999 ∧ PC w5 b s y ∧ Kc b w4 w5) := ⟨n1, n2, n4, n5⟩
    clear n1 n2 n4 n5
    go_wp2_with fail
    go_ret
    refine .inl ⟨_, rfl, ?_, ?_⟩
    · rw [R.out, if_neg (by rw [HN.out.1]; simp)]
      exact leaf_num _
    · rw [R.out, if_neg (by rw [HN.out.1]; simp), if_neg (by have := HN.out.2.1; omega)]
      exact ⟨HE.out, HN.out.2.2.1, HKW.out.trans HN.out.2.2.2⟩
  · have he' := hq.e
    subst he'
    refine ⟨rfl, .inr ?_⟩
    rw [R.out, if_pos n1, rno_on _ _ _ (by exact HE.out)]
    rw [hL.out] at hq
    exact ⟨by simp, q, hq.trans HKW.out.kb⟩
  · have he' := hq.e
    subst he'
    refine ⟨rfl, .inr ?_⟩
    rw [R.out, if_neg (by rw [n1]; simp), if_pos n2, rno_on _ _ _ (by exact HE.out)]
    rw [hL.out] at hq
    exact ⟨by simp, q, hq.trans HKW.out.kb⟩
set_option maxHeartbeats 2000000 in
set_option maxRecDepth 100000 in
theorem readWord_plain (b : Nat) (s : ByteArray) (x : St) (w : World) (m : Int) (hs : s.size ≤ 4000) (he : x.e = 0) (ha : x.a ≤ s.size) (hG : 1 < b)
    (hm : w.cell? ⟨1, 0, none⟩ = some (.int .i64 m)) (hc : bt s x.a ≠ 43 ∧ bt s x.a ≠ 45) (h : PC w b s x.a) :
    Calls Tryz.prog 90 #[.pointer (some ⟨b, 0, none⟩)] w fun e w' => WordP b s x w e w' := by
  have h' : Hid (PC w b s x.a) := h
  have hA := h.A
  have hlt := h.lt
  have HE : Hid (x.e = 0) := he
  have Hm : Hid _ := hm
  have hmlt := lt_of_cell hm
  clear h he hm
  have t1 : ((bt s x.a : Int) == 43) = false := by simp; omega
  have t2 : ((bt s x.a : Int) == 45) = false := by simp; omega
  have hA1 : x.a ≤ s.size := ha
  have HL1 : Hid (lineAt s x.a = lineAt s x.a) := rfl
  have R0 : Hid (rword s x = rwordAt s x.a false false x) := by
    unfold Hid rword
    have e1 : ris s x 45 = false := by rw [ris_pk s x 45 HE.out (by decide)]; exact decide_eq_false (by omega)
    have e2 : ris s x 43 = false := by rw [ris_pk s x 43 HE.out (by decide)]; exact decide_eq_false (by omega)
    rw [e1, e2]
    rfl
  have Hc : Hid (bt s x.a ≠ 43 ∧ bt s x.a ≠ 45) := hc
  clear hc
  have h1 := scan_ge letterB s x.a
  have h2 := scan_le letterB s x.a hA1
  have hL : Hid (lineAt s (scan letterB s x.a) = lineAt s x.a) := (lineAt_scan _ _ (by decide) _).trans HL1.out
  go_enter Tryz.func90, Tryz.ntmps90
  go_wp2_with fail
  refine (peek_any b s x.a _ hs ha h'.out).mono ?_
  rintro e w1 ⟨rfl, n, rfl⟩
  go_wp2_with fail
  refine (peek_any b s x.a _ hs ha (h'.out.drewN n)).mono ?_
  rintro e w1 ⟨rfl, n2, hw2⟩
  rw [World.drewN_drewN] at hw2
  subst hw2
  have HPC : Hid (PC (w.drewN (n + n2)) b s x.a) := h'.out.drewN _
  have HKC : Hid (Kc b w (w.drewN (n + n2))) := (Kc.refl _ _).drewN _
  go_wp2_with fail
  refine (take_isOfName b s x.a _ hs hA1 HPC.out).mono ?_
  rintro e w3 ⟨rfl, h3, hk3⟩
  obtain ⟨hT3, hA3, hL3, hF3, hlt3⟩ := h3
  have h3' : Hid (PC w3 b s (scan letterB s x.a)) := ⟨hT3, hA3, hL3, hF3, hlt3⟩
  have HK3 : Hid (Kc b w w3) := HKC.out.trans hk3
  clear hk3 HKC HPC
  have h1' : x.a ≤ scan letterB s x.a := by omega
  generalize hy : scan letterB s x.a = y at *
  have Hy : Hid _ := hy
  clear hy
  go_wp2_with fail
  go_quiet (fail)
  have HPW : Hid (PC (w3.drewN nq) b s y) := h3'.out.drewN nq
  have HKW : Hid (Kc b w (w3.drewN nq)) := HK3.out.drewN nq
  generalize w3.drewN nq = w4 at *
  have hm4 : Hid (w4.cell? ⟨1, 0, none⟩ = some (.int .i64 m)) := by
    unfold Hid
    rw [HKW.out.kb.cell hmlt (by omega)]
    exact Hm.out
  clear h3' HK3 hT3 hA3 hL3 hF3 hlt3 hA
  have hsz : (s.extract x.a y).size = y - x.a := size_ext s x.a y (by omega)
  have Hsz : Hid _ := hsz
  clear hsz
  have hb0 : (s.extract x.a y).size = 0 ∨ (bt (s.extract x.a y) 0 ≠ 43 ∧ bt (s.extract x.a y) 0 ≠ 45) := by
    by_cases e : y = x.a
    · left; have := Hsz.out; omega
    · right; rw [ext_bt0 s x.a y (by omega) (by omega)]; exact Hc.out
  have C1 : Hid (Lib.hasPrefix (s.extract x.a y).data.toList [45] = false) := by
    unfold Hid
    rw [hasP_one, decide_eq_false_iff_not]
    rintro ⟨q1, q2⟩
    rcases hb0 with q | q
    · exact q1 q
    · exact q.2 q2
  have C2 : Hid ((⟨(Lib.trimPrefix (s.extract x.a y).data.toList (if false = true then [45] else [43])).toArray⟩ : ByteArray) = s.extract x.a y) := trim_none _ 43 (hb0.elim .inl (fun q => .inr q.1))
  have Rt : Hid (s.extract x.a y = trueS → rword s x = (⟨y, x.e, x.p⟩, ⟨98, 1, ⟨#[]⟩, [], []⟩)) := by
    intro e
    rw [R0.out]
    unfold rwordAt rrun
    simp only [Hy.out]
    rw [if_pos ⟨trivial, trivial, .inl e⟩, if_pos e]
  have Rf : Hid (s.extract x.a y ≠ trueS → s.extract x.a y = falseS → rword s x = (⟨y, x.e, x.p⟩, ⟨98, 0, ⟨#[]⟩, [], []⟩)) := by
    intro e0 e
    rw [R0.out]
    unfold rwordAt rrun
    simp only [Hy.out]
    rw [if_pos ⟨trivial, trivial, .inr e⟩, if_neg e0]
  have Rn : Hid (s.extract x.a y ≠ trueS → s.extract x.a y ≠ falseS → rword s x = if rnumber (s.extract x.a y) = false then (rno ⟨y, x.e, x.p⟩ 3 x.a, V0) else (if 999999999999999 < rdig (s.extract x.a y) (s.extract x.a y).size then rno ⟨y, x.e, x.p⟩ 4 x.a else ⟨y, x.e, x.p⟩, ⟨110, if false = true then - rdig (s.extract x.a y) (s.extract x.a y).size else rdig (s.extract x.a y) (s.extract x.a y).size, ⟨#[]⟩, [], []⟩)) := by
    intro e0 e
    rw [R0.out, rwordAt_num _ _ _ _ _ (by rw [Hy.out]; rintro ⟨_, _, q | q⟩; exact e0 q; exact e q)]
    simp only [Hy.out]
  clear hb0
  generalize hwd : s.extract x.a y = word at *
  have Hwd : Hid _ := hwd
  clear hwd
  by_cases hT : word = trueS
  · have tT : (word.toList == [116, 114, 117, 101]) = true := by rw [true_beq]; exact decide_eq_true hT
    have Fin : Hid _ := Rt.out hT
    clear hT
    go_wp2_with fail
    go_ret
    refine .inl ⟨_, rfl, ?_, ?_⟩
    · rw [Fin.out]; exact leaf_true
    · rw [Fin.out]; exact ⟨HE.out, HPW.out, HKW.out⟩
  · have tT : (word.toList == [116, 114, 117, 101]) = false := by rw [true_beq]; exact decide_eq_false hT
    by_cases hF : word = falseS
    · have tF : (word.toList == [102, 97, 108, 115, 101]) = true := by rw [false_beq]; exact decide_eq_true hF
      have Fin : Hid _ := Rf.out hT hF
      clear hT hF
      go_wp2_with fail
      go_ret
      refine .inl ⟨_, rfl, ?_, ?_⟩
      · rw [Fin.out]; exact leaf_false
      · rw [Fin.out]; exact ⟨HE.out, HPW.out, HKW.out⟩
    · have tF : (word.toList == [102, 97, 108, 115, 101]) = false := by rw [false_beq]; exact decide_eq_false hF
      have R : Hid _ := Rn.out hT hF
      clear hT hF
      go_wp2_with fail
      refine (toNumber_any b s y word word false _ m hs (by have := Hsz.out; omega) hG C1.out C2.out hm4.out HPW.out).mono ?_
      rintro e w5 ⟨hN⟩
      rcases hN with ⟨n1, n2, rfl, n4, n5⟩ | ⟨n1, q, hq⟩ | ⟨n1, n2, q, hq⟩
      · have HN : Hid (rnumber word = true ∧ rdig word word.size ≤ 999999999999999 ∧ PC w5 b s y ∧ Kc b w4 w5) := ⟨n1, n2, n4, n5⟩
        clear n1 n2 n4 n5
        go_wp2_with fail
        go_ret
        refine .inl ⟨_, rfl, ?_, ?_⟩
        · rw [R.out, if_neg (by rw [HN.out.1]; simp)]
          exact leaf_num _
        · rw [R.out, if_neg (by rw [HN.out.1]; simp), if_neg (by have := HN.out.2.1; omega)]
          exact ⟨HE.out, HN.out.2.2.1, HKW.out.trans HN.out.2.2.2⟩
      · have he' := hq.e
        subst he'
        refine ⟨rfl, .inr ?_⟩
        rw [R.out, if_pos n1, rno_on _ _ _ (by exact HE.out)]
        rw [hL.out] at hq
        exact ⟨by simp, q, hq.trans HKW.out.kb⟩
      · have he' := hq.e
        subst he'
        refine ⟨rfl, .inr ?_⟩
        rw [R.out, if_neg (by rw [n1]; simp), if_pos n2, rno_on _ _ _ (by exact HE.out)]
        rw [hL.out] at hq
        exact ⟨by simp, q, hq.trans HKW.out.kb⟩
theorem readWord_any (b : Nat) (s : ByteArray) (x : St) (w : World) (m : Int) (hs : s.size ≤ 4000) (he : x.e = 0) (ha : x.a ≤ s.size) (hG : 1 < b)
    (hm : w.cell? ⟨1, 0, none⟩ = some (.int .i64 m)) (h : PC w b s x.a) :
    Calls Tryz.prog 90 #[.pointer (some ⟨b, 0, none⟩)] w fun e w' => WordP b s x w e w' := by
  by_cases h1 : bt s x.a = 43
  · exact readWord_plus b s x w m hs he ha hG hm h1 h
  · by_cases h2 : bt s x.a = 45
    · exact readWord_minus b s x w m hs he ha hG hm h2 h
    · exact readWord_plain b s x w m hs he ha hG hm ⟨h1, h2⟩ h
end Go.Proofs.YtdebjhdafnpfkabGreatDoor

namespace Go.Proofs.YtdebjhdafnpfkabGreatDoor
open Go.ChangeShapes Go.WideShapes Go.ChangeAt Go.RowKit
set_option linter.unusedVariables false
set_option linter.unusedSimpArgs false
theorem take_isBlankInList (b : Nat) (s : ByteArray) (a : Nat) (w : World) (hs : s.size ≤ 4000) (ha : a ≤ s.size) (h : PC w b s a) :
    Calls Tryz.prog 42 #[.pointer (some ⟨b, 0, none⟩), .func (.func 99) #[] #[]] w fun e w' =>
      e = .returned (.string (s.extract a (scan (blankB true) s a))) ∧ PC w' b s (scan (blankB true) s a) ∧ Kc b w w' := by
  have hA := h.A
  have h' : Hid (PC w b s a) := h
  clear h
  go_enter Tryz.func42, Tryz.ntmps42
  go_wp2
  go_loopw [] (fun wr => ∃ a' : Nat, Hid (PC wr b s a') ∧ Kc b w wr ∧ Hid (scan (blankB true) s a = scan (blankB true) s a') ∧ a ≤ a' ∧ a' ≤ s.size) (fun wr => s.size - atOf wr b)
  case atStart => exact ⟨a, h', Kc.refl _ _, rfl, Nat.le_refl _, ha⟩
  case round =>
    clear h' hA
    obtain ⟨a', h1, hk, hsc, ha1, ha'⟩ := hrel
    obtain ⟨hT, hA, hL, hF, hlt⟩ := h1.out
    by_cases hl : a' < s.size
    · have hd : decide (a' = s.size) = false := by simp; omega
      have hbt := bt_in s a' hl
      cases hb : (blankB true) (bt s a')
      · have hfin : Hid (scan (blankB true) s a = a') := by
          unfold Hid
          rw [hsc.out, scan_stop _ _ _ (fun _ => hb)]
        go_wp2
        go_quiet (first | (go_at_call 29; exact Calls.quiet_of (done_any b s a' _ hs ha' (h1.out.drewN _))) | (go_at_call 99; exact Calls.quiet_of_same (isBlankInList_any _ _ (bt_lt _ _))))
        go_wp2
        go_quiet (fail)
        go_wp2
        go_ret
        exact ⟨ret_str' (by rw [hfin.out]), by rw [hfin.out]; exact (h1.out.drewN _).drewN _, (hk.drewN _).drewN _⟩
      · have hst : Hid (scan (blankB true) s a' = scan (blankB true) s (a' + 1)) := scan_step _ _ _ hl hb
        go_wp2
        go_quiet (first | (go_at_call 29; exact Calls.quiet_of (done_any b s a' _ hs ha' (h1.out.drewN _))) | (go_at_call 99; exact Calls.quiet_of_same (isBlankInList_any _ _ (bt_lt _ _))))
        go_wp2_with fail
        refine (step_any b s a' _ hs hl (h1.out.drewN _)).mono ?_
        rintro e w1 ⟨rfl, h2, hk2⟩
        have h2' : Hid (PC w1 b s (a' + 1)) := h2
        clear h2
        go_wp2
        go_roundw
        case rel => exact ⟨a' + 1, h2', (hk.drewN _).trans hk2, hsc.out.trans hst.out, by omega, by omega⟩
        case measure => rw [h2'.out.atOf, h1.out.atOf]; omega
    · have e1 : a' = s.size := by omega
      have hd : decide (a' = s.size) = true := by simp; omega
      have hfin : Hid (scan (blankB true) s a = a') := by
        unfold Hid
        rw [hsc.out, scan_stop _ _ _ (fun h => absurd h hl)]
      have H : Hid (a' = s.size) := e1
      clear e1
      go_wp2
      go_quiet ((go_at_call 29; exact Calls.quiet_of (done_any b s a' _ hs ha' (h1.out.drewN _))))
      go_wp2
      go_quiet (fail)
      go_wp2
      go_ret
      exact ⟨ret_str' (by rw [hfin.out]), by rw [hfin.out]; exact (h1.out.drewN _).drewN _, (hk.drewN _).drewN _⟩
end Go.Proofs.YtdebjhdafnpfkabGreatDoor

namespace Go.Proofs.YtdebjhdafnpfkabGreatDoor
open Go.ChangeShapes Go.WideShapes Go.ChangeAt Go.RowKit
set_option linter.unusedVariables false
/-- The node of a text that is being read. -/
structure TN (w : World) (q : Nat) (t : ByteArray) : Prop where
  c0 : w.cell? ⟨q, 0, none⟩ = some (.int .u8 115)
  c1 : w.cell? ⟨q, 1, none⟩ = some (.int .i64 0)
  c2 : w.cell? ⟨q, 2, none⟩ = some (.string t)
  c3 : w.cell? ⟨q, 3, none⟩ = some (.slice none 0 0)
  c4 : w.cell? ⟨q, 4, none⟩ = some (.slice none 0 0)
  F : ∀ o, w.frozen? ⟨q, o, none⟩ = false
theorem TN.of_block {w w' : World} {q : Nat} {t : ByteArray} (h : TN w q t) (hb : w'.heap[q]? = w.heap[q]?) : TN w' q t :=
  ⟨(World.cell?_of_block (w := w) hb).trans h.c0, (World.cell?_of_block (w := w) hb).trans h.c1, (World.cell?_of_block (w := w) hb).trans h.c2, (World.cell?_of_block (w := w) hb).trans h.c3,
   (World.cell?_of_block (w := w) hb).trans h.c4, fun o => (World.frozen?_of_block (w := w) hb).trans (h.F o)⟩
theorem TN.kb {b : Nat} {w w' : World} {q : Nat} {t : ByteArray} (h : TN w q t) (hk : Kb b w w') (hq : q < w.heap.size) (hb : q ≠ b) : TN w' q t := h.of_block (hk.block q hq hb)
theorem TN.drewN {w : World} {q : Nat} {t : ByteArray} (h : TN w q t) (n : Nat) : TN (w.drewN n) q t := by
  induction n with
  | zero => exact h
  | succ n ih => exact ⟨ih.c0, ih.c1, ih.c2, ih.c3, ih.c4, ih.F⟩
theorem RD.drew {w : World} {b : Nat} {s : ByteArray} {x : St} {it : Value} (h : RD w b s x it) : RD w.drew b s x it := ⟨h.S, h.A, h.E, h.P, h.I, h.F, h.lt⟩
theorem Kb.drew {b : Nat} {u v : World} (h : Kb b u v) : Kb b u v.drew := ⟨h.os, h.tape, h.output, h.size, h.block, h.froz⟩
theorem TN.drew {w : World} {q : Nat} {t : ByteArray} (h : TN w q t) : TN w.drew q t := ⟨h.c0, h.c1, h.c2, h.c3, h.c4, h.F⟩
theorem TN.put {w : World} {q : Nat} {t : ByteArray} (h : TN w q t) (u : ByteArray) : TN (w.setCell ⟨q, 2, none⟩ (.string u)) q u :=
  ⟨(cell_set_off _ _ _ _ _ (by omega)).trans h.c0, (cell_set_off _ _ _ _ _ (by omega)).trans h.c1, cell_set_same _ _ _ _ _ h.c2, (cell_set_off _ _ _ _ _ (by omega)).trans h.c3,
   (cell_set_off _ _ _ _ _ (by omega)).trans h.c4, fun o => (World.frozen?_setCell _ _ _ _).trans (h.F o)⟩
end Go.Proofs.YtdebjhdafnpfkabGreatDoor
