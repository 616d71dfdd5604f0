import Derived.Test.YtdebjhdafnpfkabGreatDoorK15
namespace Go.Proofs.YtdebjhdafnpfkabGreatDoor
open Go.ChangeShapes Go.WideShapes Go.ChangeAt Go.RowKit
set_option linter.unusedVariables false
set_option linter.unusedSimpArgs false
theorem info_entry : (Tryz.prog.info? 93).map (fun i => (i.zero, i.size, i.bytes)) = some (some .nilIface, 1, 16) := by kernel_rfl
theorem rmk_ext (s : ByteArray) (a e : Nat) (h : a < e) (he : e ≤ s.size) : rmk (s.extract a e) = s.extract (a + 1) e := by
  apply bytes_ext
  unfold rmk
  rw [Lib.extract_data, Lib.extract_data, Lib.extract_data, size_ext s a e he, List.drop_take, List.drop_drop, List.take_take]
  congr 1
  omega
theorem rnote_yes {s : ByteArray} {y : St} {t : It} (he : y.e = 0) (h : bt s y.a = 35) : rnote s (y, t) = (⟨scan inLine s y.a, y.e, y.p⟩, ⟨t.k, t.path, t.full, t.v, s.extract y.a (scan inLine s y.a)⟩) := by
  unfold rnote
  simp only
  rw [ris_pk s y 35 he (by decide), if_pos (by simpa using h)]
theorem rnote_no {s : ByteArray} {y : St} {t : It} (he : y.e = 0) (h : bt s y.a ≠ 35) : rnote s (y, t) = (y, t) := by
  unfold rnote
  simp only
  rw [ris_pk s y 35 he (by decide), if_neg (by simpa using h)]
/-- The end of a line. -/
def endZ (s : ByteArray) (y : St) : St := if y.a < s.size then rmust s y 10 else y
theorem lineZ_eq {s : ByteArray} {items : List It} {x y : St} {t : It} (h : rline s items x = (y, t)) (he : y.e = 0) : lineZ s items x = endZ s y := by
  unfold lineZ endZ
  rw [h]
  simp only [he, true_and]
/-- What a line comes to. -/
def LineP (b : Nat) (s : ByteArray) (items : List It) (x : St) (w : World) (e : Ending) (w' : World) : Prop :=
  (e = .returned (.tuple #[]) ∧ (lineZ s items x).e = 0 ∧ PS w' b s (lineZ s items x).a (items ++ [(rline s items x).2]) ∧ Below b w w') ∨ QBad s b w e w' (lineZ s items x)
/-- The entry stands among the others. -/
theorem ps_more {w w' : World} {b nb : Nat} {hv pv ev ev' : Value} {es : List Value} {items : List It} {s : ByteArray} {a : Nat} {v : Value} {t : It} {S : Nat → Prop} (hpt : PT w b nb (jn (rtable (items ++ [t]))) hv pv ev (hdrs (items ++ [t])) (prs (items ++ [t])) es items)
    (hok : ItsOk items) (ht : ItOk t) (hlen : items.length < 4000) (hpc : PC w b s a) (hS : Away w.heap.size b hv pv ev S) (hE : PEnt S w v t) (ha : Ap b 6 ev w w' ev') (ho : w'.ownsRow (b + 1) 93 1 ev' (es ++ [v]).length (es ++ [v])) :
    PS w' b s a (items ++ [t]) :=
  ⟨ha.pc hpc (by decide), hok.snoc ht, by simp; omega, w'.heap.size, hv, pv, ev', es ++ [v], hpt.entry v t ha ho hS hE⟩
set_option maxRecDepth 100000 in
set_option maxHeartbeats 8000000 in
theorem readLine_any (b : Nat) (s : ByteArray) (items : List It) (x : St) (w : World) (m : Int) (hs : s.size ≤ 4000) (he : x.e = 0) (ha : x.a ≤ s.size) (hlen : items.length < 4000) (hG : 1 < b)
    (hm : w.cell? ⟨1, 0, none⟩ = some (.int .i64 m)) (h : PS w b s x.a items) :
    Calls Tryz.prog 30 #[.pointer (some ⟨b, 0, none⟩)] w fun e w' => LineP b s items x w e w' := by
  obtain ⟨i0, hi, hz0, hz1, hz2⟩ := info_parts info_entry
  have hmf : ∀ (fn : Fn) (first cap : Array Value) (w : World), (Instr.makeFunc fn first cap).run Tryz.prog w = .ok (.func fn first cap) w := fun _ _ _ _ => rfl
  have h' : Hid (PS w b s x.a items) := h
  have HE : Hid (x.e = 0) := he
  have Hm : Hid _ := hm
  have hlt := h.pc.lt
  have HOK : Hid (ItsOk items) := h.ok
  clear h he hm
  have MB : Hid (¬ (bt s (rblanks s x false).a = 91 ∨ letterB (bt s (rblanks s x false).a) = true) → ∃ k, (k = 32 ∨ k = 35) ∧ Mid s items x (rblanks s (rblanks s x false) false) (bareIt k)) := mid_bare HE.out ha
  have LB : Hid (bt s (rblanks s x false).a = 91 ∨ letterB (bt s (rblanks s x false).a) = true → (ritem s items (rblanks s x false)).1.e ≠ 0 → (lineZ s items x).e = (ritem s items (rblanks s x false)).1.e ∧ (lineZ s items x).p = (ritem s items (rblanks s x false)).1.p) := fun a b => line_bad HE.out a b
  go_enter Tryz.func30, Tryz.ntmps30
  go_wp2_with fail
  refine (pblanks_any b s x.a _ hs ha h'.out.pc).mono ?_
  rintro e w1 ⟨rfl, hp1, hk1⟩
  have HS1 : Hid (PS w1 b s (rblanks s x false).a items) := ⟨hp1, h'.out.ok, h'.out.len, h'.out.pt.elim fun nb ⟨hv, pv, ev, es, hpt⟩ => ⟨nb, hv, pv, ev, es, hpt.kc hk1⟩⟩
  have HB1 : Hid (Below b w w1) := hk1.kb.bel hlt
  have Hm1 : Hid (w1.cell? ⟨1, 0, none⟩ = some (.int .i64 m)) := cell_kc Hm.out hG hk1
  have hx1 : (rblanks s x false).a ≤ s.size := scan_le _ _ _ ha
  have HE1 : Hid ((rblanks s x false).e = 0) := HE.out
  have hlt1 := hp1.lt
  clear hp1 hk1 h' Hm
  go_wp2_with fail
  refine (readEntry_any b s items (rblanks s x false) _ m hs HE1.out hx1 hG Hm1.out HS1.out).mono ?_
  intro e w2 hE
  have hU : (∃ (t : It) (tt q : Nat) (y0 : St), e = .returned (.iface tt (ptr q)) ∧ EntOk s b w1 w2 y0 items t (.iface tt (ptr q)) ∧ y0.a ≤ s.size ∧ Mid s items x (rblanks s y0 false) t) ∨
      ((lineZ s items x).e = (ritem s items (rblanks s x false)).1.e ∧ (lineZ s items x).p = (ritem s items (rblanks s x false)).1.p ∧ PBad s b w1 e w2 (ritem s items (rblanks s x false)).1) := by
    rcases hE with ⟨hx, ⟨tt, q, e1, hok⟩ | hbad⟩ | ⟨hx, tt, q, e1, hok⟩
    · exact .inl ⟨_, tt, q, _, e1, hok, (gd_item items (x := rblanks s x false) ⟨by omega, fun _ => hx1⟩).1.2 hok.e, mid_item HE.out hx hok⟩
    · have := LB.out hx hbad.1
      exact .inr ⟨this.1, this.2, hbad⟩
    · obtain ⟨k, hk, hmid⟩ := MB.out hx
      exact .inl ⟨_, tt, q, _, e1, hok k hk, hx1, hmid⟩
  clear hE MB LB
  rcases hU with ⟨t, tt, q, y0, rfl, hent, hy0, hmid⟩ | ⟨z1, z2, hbad⟩
  · have HEnt : Hid (EntOk s b w1 w2 y0 items t (.iface tt (ptr q))) := hent
    have HMid : Hid (Mid s items x (rblanks s y0 false) t) := hmid
    have HZ0 : Hid (y0.e = 0) := hent.e
    have hlt2 := hent.pc.lt
    clear hent hmid
    go_wp2_with fail
    refine (pblanks_any b s y0.a _ hs hy0 HEnt.out.pc).mono ?_
    rintro e w3 ⟨rfl, hp3, hk3⟩
    have HP3 : Hid (PC w3 b s (rblanks s y0 false).a) := hp3
    have HEY : Hid ((rblanks s y0 false).e = 0) := HZ0.out
    have hy3 : (rblanks s y0 false).a ≤ s.size := scan_le _ _ _ hy0
    have HB3 : Hid (Below b w w3) := (HB1.out.trans HEnt.out.bel).trans (hk3.kb.bel hlt2)
    obtain ⟨nb, hv, pv, ev, es, S, hpt2, haw2, hpe2, hnb⟩ := HEnt.out.pt
    have HPT3 : Hid (PT w3 b nb (jn (rtable (items ++ [t]))) hv pv ev (hdrs (items ++ [t])) (prs (items ++ [t])) es items) := hpt2.kc hk3
    have HAW3 : Hid (Away w3.heap.size b hv pv ev S) := fun k hk => ⟨(haw2 k hk).1, Nat.lt_of_lt_of_le (haw2 k hk).2.1 hk3.kb.size, (haw2 k hk).2.2⟩
    have HPE3 : Hid (PEnt S w3 (.iface tt (ptr q)) t) := hpe2.frame (fun k hk => hk3.kb.block k (haw2 k hk).2.1 (by have := (haw2 k hk).1; omega))
    have HNB : Hid (∀ k, S k → nb ≤ k) := hnb
    have htt : tt = 124 ∨ tt = 61 ∨ tt = 120 := by
      obtain ⟨_, _, _, _, _, h6⟩ := hpe2
      rcases h6 with ⟨_, e, _⟩ | ⟨_, e, _⟩ | ⟨_, e⟩
      · simp only [Value.iface.injEq] at e; exact .inl e.1
      · simp only [Value.iface.injEq] at e; exact .inr (.inl e.1)
      · simp only [Value.iface.injEq] at e; exact .inr (.inr e.1)
    clear hpt2 haw2 hpe2 hnb hp3 hk3 HEnt HS1
    generalize rblanks s y0 false = y at *
    by_cases h35 : bt s y.a = 35
    · have t35 : ((bt s y.a : Int) == 35) = true := by simp; omega
      have hl : y.a < s.size := bt_lt' s y.a 35 h35 (by decide)
      have HM2 : Hid (rline s items x = (⟨scan inLine s y.a, y.e, y.p⟩, ⟨t.k, t.path, t.full, t.v, s.extract y.a (scan inLine s y.a)⟩) ∧ ∀ r : ByteArray, r.size ≠ 0 → ItOk ⟨t.k, t.path, t.full, t.v, r⟩) := by
        rcases HMid.out with ⟨a1, a2, _⟩ | ⟨_, a2, _⟩
        · exact ⟨by rw [a1, rnote_yes HEY.out h35], a2 h35⟩
        · exact absurd h35 a2
      have HSC : Hid (scan inLine s y.a = scan inLine s (y.a + 1)) := scan_step _ _ _ hl (by rw [h35]; decide)
      have hsc1 := scan_ge inLine s (y.a + 1)
      have hsc2 := scan_le inLine s (y.a + 1) hl
      clear h35
      go_wp2_with fail
      refine (peek_any b s y.a _ hs hy3 HP3.out).mono ?_
      rintro e w4 ⟨rfl, k4, rfl⟩
      go_wp2_with fail
      refine (step_any b s y.a _ hs hl (HP3.out.drewN k4)).mono ?_
      rintro e w5 ⟨rfl, hp5, hk5⟩
      have HP5 : Hid (PC w5 b s (y.a + 1)) := hp5
      have HK5 : Hid (Kc b w3 w5) := ((Kc.refl _ _).drewN k4).trans hk5
      clear hp5 hk5
      go_wp2_with fail
      have hme : ∀ w, (Go.method 361 tt (.pointer (some ⟨q, 0, none⟩)) "TakeRemark").run Tryz.prog w = .ok (158, .pointer (some ⟨q, 0, none⟩)) w := by
        rcases htt with rfl | rfl | rfl
        · exact meth_hdr q
        · exact meth_pair q
        · exact meth_bare q
      have hah : ∀ w, (nilAhead 361 tt (.pointer (some ⟨q, 0, none⟩)) "TakeRemark").run Tryz.prog w = .ok (some false) w := by
        rcases htt with rfl | rfl | rfl
        · exact ahead_hdr q
        · exact ahead_pair q
        · exact ahead_bare q
      clear htt
      have HR : Hid (rmk (s.extract y.a (scan inLine s y.a)) = s.extract (y.a + 1) (scan inLine s (y.a + 1)) ∧ (s.extract y.a (scan inLine s y.a)).size ≠ 0) := by
        refine ⟨by rw [HSC.out]; exact rmk_ext s y.a _ (by omega) hsc2, ?_⟩
        rw [HSC.out, size_ext s y.a _ hsc2]
        omega
      have HC : Hid (∀ w6, Kc b w5.drew w6 → w6.cell? ⟨q, 0, none⟩ = some (.string (rmk t.rem)) ∧ w6.cell? ⟨q, 1, none⟩ = some (.bool (decide (t.rem.size ≠ 0))) ∧ (∀ o, w6.frozen? ⟨q, o, none⟩ = false)) := by
        intro w6 hk6
        have hkk : Kc b w3 w6 := (HK5.out.drewN 1).trans hk6
        have h6 : PEnt S w6 (.iface tt (ptr q)) t := HPE3.out.frame (fun k hk => hkk.kb.block k (HAW3.out k hk).2.1 (by have := (HAW3.out k hk).1; omega))
        exact (h6.remark trueS (by decide)).2.2
      have HF : Hid (∀ w6, PC w6 b s (scan inLine s (y.a + 1)) → Kc b w5.drew w6 → ∀ W, W = (w6.setCell ⟨q, 0, none⟩ (.string (s.extract (y.a + 1) (scan inLine s (y.a + 1))))).setCell ⟨q, 1, none⟩ (.bool true) →
          PT W b nb (jn (rtable (items ++ [t]))) hv pv ev (hdrs (items ++ [t])) (prs (items ++ [t])) es items ∧ Away W.heap.size b hv pv ev S ∧ PEnt S W (.iface tt (ptr q)) ⟨t.k, t.path, t.full, t.v, s.extract y.a (scan inLine s y.a)⟩ ∧ PC W b s (scan inLine s y.a) ∧ Below b w W) := by
        intro w6 hp6 hk6 W hW
        have hkk : Kc b w3 w6 := (HK5.out.drewN 1).trans hk6
        have hlt3 := HP3.out.lt
        have h6 : PEnt S w6 (.iface tt (ptr q)) t := HPE3.out.frame (fun k hk => hkk.kb.block k (HAW3.out k hk).2.1 (by have := (HAW3.out k hk).1; omega))
        have h7 := h6.remark (s.extract y.a (scan inLine s y.a)) HR.out.2
        rw [HR.out.1] at h7
        have hSq := HAW3.out q h7.1
        have hnq := HNB.out q h7.1
        have hzz : W.heap.size = w6.heap.size := by rw [hW]; simp [World.setCell]
        have hP6 := HPT3.out.kc hkk
        refine ⟨?_, ?_, ?_, ?_, ?_⟩
        · rw [hW]
          exact (hP6.set q 0 _ hSq.1 hnq hSq.2.2.1 hSq.2.2.2.1 hSq.2.2.2.2).set q 1 _ hSq.1 hnq hSq.2.2.1 hSq.2.2.2.1 hSq.2.2.2.2
        · intro k hk
          have := HAW3.out k hk
          exact ⟨this.1, by rw [hzz]; exact Nat.lt_of_lt_of_le this.2.1 hkk.kb.size, this.2.2⟩
        · rw [hW]; exact h7.2.1
        · have hbk : W.heap[b]? = w6.heap[b]? := by
            rw [hW, Below.heap_setCell _ _ _ _ (by simp only; omega), Below.heap_setCell _ _ _ _ (by simp only; omega)]
          rw [HSC.out]
          exact hp6.of_block hbk (by rw [hzz]; exact Nat.le_refl _)
        · rw [hW]
          exact ((HB3.out.trans (hkk.kb.bel hlt3)).setCell (p := ⟨q, 0, none⟩) (by show b ≤ q; omega) _).setCell (p := ⟨q, 1, none⟩) (by show b ≤ q; omega) _
      have HY : Hid (scan inLine s y.a ≤ s.size ∧ (scan inLine s y.a < s.size → bt s (scan inLine s y.a) = 10)) := by
        refine ⟨by rw [HSC.out]; exact hsc2, fun hq => ?_⟩
        have := skip_end inLine s (s.size - y.a) y.a (by omega) hq
        have h2 : ¬ (bt s (scan inLine s y.a) ≠ 10) := by
          intro e
          have h3 : inLine (bt s (scan inLine s y.a)) = true := by simpa [inLine] using e
          have h4 : inLine (bt s (scan inLine s y.a)) = false := this
          rw [h3] at h4
          cases h4
        exact Classical.byContradiction h2
      have HYe : Hid ((⟨scan inLine s y.a, y.e, y.p⟩ : St).e = 0) := HEY.out
      have ZZ : Hid (lineZ s items x = endZ s ⟨scan inLine s y.a, y.e, y.p⟩ ∧ (rline s items x).2 = ⟨t.k, t.path, t.full, t.v, s.extract y.a (scan inLine s y.a)⟩ ∧ ItOk ⟨t.k, t.path, t.full, t.v, s.extract y.a (scan inLine s y.a)⟩) :=
        ⟨lineZ_eq HM2.out.1 HEY.out, by rw [HM2.out.1], HM2.out.2 _ HR.out.2⟩
      go_region_with (first | (go_at_call 42; refine (take_isInLine b s (y.a + 1) _ hs ?_ ?_).mono ?_; (· omega); (· exact HP5.out.drewN 1); rintro e w6 ⟨rfl, hp6, hk6⟩) | (go_at_call 158; refine (takeRemark_any q _ (.string (rmk t.rem)) (.bool (decide (t.rem.size ≠ 0))) _ ?_ ?_ ?_).mono ?_; (· exact (HC.out w6 hk6).1); (· exact (HC.out w6 hk6).2.1); (· exact (HC.out w6 hk6).2.2); rintro e w7 ⟨rfl, rfl⟩))
      all_goals
        have hff := HF.out w6 hp6 hk6 _ rfl
        clear hp6 hk6
        generalize (w6.setCell ⟨q, 0, none⟩ (.string (s.extract (y.a + 1) (scan inLine s (y.a + 1))))).setCell ⟨q, 1, none⟩ (.bool true) = W at *
        obtain ⟨hfp, hfa, hfe, hfc, hfb⟩ := hff
        have HPT : Hid (PT W b nb (jn (rtable (items ++ [t]))) hv pv ev (hdrs (items ++ [t])) (prs (items ++ [t])) es items) := hfp
        have HAW : Hid (Away W.heap.size b hv pv ev S) := hfa
        have HPE : Hid (PEnt S W (.iface tt (ptr q)) ⟨t.k, t.path, t.full, t.v, s.extract y.a (scan inLine s y.a)⟩) := hfe
        have HPC : Hid (PC W b s (scan inLine s y.a)) := hfc
        have HBW : Hid (Below b w W) := hfb
        have ZE : Hid (∀ hd : scan inLine s y.a < s.size, (rmust s ⟨scan inLine s y.a, y.e, y.p⟩ 10).e = 0) := fun hd => by
          rw [rmust_hit s ⟨scan inLine s y.a, y.e, y.p⟩ 10 HYe.out (by decide) (HY.out.2 hd)]
          exact HYe.out
        clear hfp hfa hfe hfc hfb
        have hYle : (⟨scan inLine s y.a, y.e, y.p⟩ : St).a ≤ s.size := HY.out.1
        have Z1 : Hid ((⟨scan inLine s y.a, y.e, y.p⟩ : St).a = s.size → lineZ s items x = ⟨scan inLine s y.a, y.e, y.p⟩ ∧ (rline s items x).2 = ⟨t.k, t.path, t.full, t.v, s.extract y.a (scan inLine s y.a)⟩ ∧ ItOk ⟨t.k, t.path, t.full, t.v, s.extract y.a (scan inLine s y.a)⟩) := fun hq => by
          refine ⟨?_, ZZ.out.2⟩
          rw [ZZ.out.1]; unfold endZ; rw [if_neg (by omega)]
        have Z2 : Hid ((⟨scan inLine s y.a, y.e, y.p⟩ : St).a < s.size → (rmust s ⟨scan inLine s y.a, y.e, y.p⟩ 10).e = 0 → lineZ s items x = rmust s ⟨scan inLine s y.a, y.e, y.p⟩ 10 ∧ (rline s items x).2 = ⟨t.k, t.path, t.full, t.v, s.extract y.a (scan inLine s y.a)⟩ ∧ ItOk ⟨t.k, t.path, t.full, t.v, s.extract y.a (scan inLine s y.a)⟩) := fun hq _ => by
          refine ⟨?_, ZZ.out.2⟩
          rw [ZZ.out.1]; unfold endZ; rw [if_pos hq]
        have Z3 : Hid ((⟨scan inLine s y.a, y.e, y.p⟩ : St).a < s.size → (rmust s ⟨scan inLine s y.a, y.e, y.p⟩ 10).e ≠ 0 → (lineZ s items x).e = (rmust s ⟨scan inLine s y.a, y.e, y.p⟩ 10).e ∧ (lineZ s items x).p = (rmust s ⟨scan inLine s y.a, y.e, y.p⟩ 10).p) := fun hq hn => absurd (ZE.out hq) hn
        have Hsn : Hid (rtable (items ++ [t]) = rtable (items ++ [⟨t.k, t.path, t.full, t.v, s.extract y.a (scan inLine s y.a)⟩]) ∧ hdrs (items ++ [t]) = hdrs (items ++ [⟨t.k, t.path, t.full, t.v, s.extract y.a (scan inLine s y.a)⟩]) ∧ prs (items ++ [t]) = prs (items ++ [⟨t.k, t.path, t.full, t.v, s.extract y.a (scan inLine s y.a)⟩])) := by
          refine ⟨?_, ?_, ?_⟩
          · rw [rtable_snoc, rtable_snoc]
          · rw [hdrs_snoc, hdrs_snoc]
          · rw [prs_snoc, prs_snoc]
        rw [Hsn.out.1, Hsn.out.2.1, Hsn.out.2.2] at HPT
        have HPC' : Hid (PC W b s (⟨scan inLine s y.a, y.e, y.p⟩ : St).a) := HPC.out
        clear HPC ZE HF HC HR HY HM2 ZZ Hsn HSC hsc1 hsc2
        have HYe : Hid (St.e ⟨scan inLine s y.a, y.e, y.p⟩ = 0) := HEY.out
        generalize (⟨t.k, t.path, t.full, t.v, s.extract y.a (scan inLine s y.a)⟩ : It) = tf at *
        generalize (⟨scan inLine s y.a, y.e, y.p⟩ : St) = Y at *
        have hc6 := HPT.out.c6
        have hFW := HPC'.out.F
        have hltW := HPC'.out.lt
        have O6 : Hid (W.ownsRow (b + 1) 93 1 ev es.length es) := HPT.out.o6
        have hesl : es.length < 4000 := by have := HPT.out.len; omega
        obtain ⟨ad6, cap6, hv6⟩ := ownsS_form O6.out
        subst hv6
        have C6 : Hid _ := hc6
        go_wp2_with (at_builtin; refine wpList_append_own_at _ rfl (.tmp 35) (.tmp 37) 79 rfl (b + 1) 93 i0 .nilIface 1 16 Tryz.underlying79 hi hz0 hz1 hz2 rfl (by decide) _ _ _ rfl (O6.out.alloc _) ⟨W.heap.size, 0, none⟩ 1 1 [.iface tt (ptr q)] rfl rfl (cell_one_new _ _ _) (by intro u hu; simp at hu; subst hu; rfl) (by unfold maxLen; omega) (by omega) (by simp; omega) ?_; intro v1 w8 hown8 hgrow8 hnil8 hat8; refine Hid.out ?_)
        have hne : (Value.slice ad6 es.length cap6).ownBlock ≠ some b := fun e => (ownsS_ne O6.out (Nat.lt_succ_self b)) e.symm
        have HA : Hid (Ap b 6 (.slice ad6 es.length cap6) W (w8.setCell ⟨b, 6, none⟩ v1) v1) := ap_mk hltW C6.out hne ((Below.refl _ _).alloc (Nat.le_refl _) _) hgrow8 hat8
        have HO : Hid ((w8.setCell ⟨b, 6, none⟩ v1).ownsRow (b + 1) 93 1 v1 (es ++ [Value.iface tt (ptr q)]).length (es ++ [Value.iface tt (ptr q)])) := by
          unfold Hid
          refine ownsS_frame (w := w8) (by simpa using hown8) (fun k k1 _ _ => Below.heap_setCell _ _ _ _ (by simp only; omega))
        have hbb : w8.heap[b]? = W.heap[b]? := (hgrow8.block b (by simp; omega) (fun e => hne e.symm)).trans (Below.heap_alloc _ _ _ hltW)
        have c6' : w8.cell? ⟨b, 6, none⟩ = some (.slice ad6 es.length cap6) := (World.cell?_of_block (w := W) hbb).trans C6.out
        have hF' : ∀ o, w8.frozen? ⟨b, o, none⟩ = false := fun o => (World.frozen?_of_block (w := W) hbb).trans (hFW o)
        obtain ⟨ad8, cap8, hv8⟩ := ownsS_form hown8
        subst hv8
        have HBZ : Hid (Below b w (w8.setCell ⟨b, 6, none⟩ (.slice ad8 (es.length + 1) cap8))) := HBW.out.trans (HA.out.below hltW (fun k hk => (O6.out.lt k hk).1))
        have HPZ : Hid (PC (w8.setCell ⟨b, 6, none⟩ (.slice ad8 (es.length + 1) cap8)) b s Y.a) := HA.out.pc HPC'.out (by decide)
        have HPS : Hid (ItOk tf → PS (w8.setCell ⟨b, 6, none⟩ (.slice ad8 (es.length + 1) cap8)) b s Y.a (items ++ [tf])) := fun hI => ps_more HPT.out HOK.out hI hlen HPC'.out HAW.out HPE.out HA.out HO.out
        clear hown8 hgrow8 hnil8 hat8 hbb hc6 C6 hFW HA HO
        unfold Hid
        by_cases hd : Y.a = s.size
        · have td : decide (Y.a = s.size) = true := by simpa using hd
          have ZZ := Z1.out hd
          have HZZ : Hid (lineZ s items x = Y ∧ (rline s items x).2 = tf ∧ ItOk tf) := ZZ
          clear ZZ hd
          go_wp2_with fail
          refine (done_any b s Y.a _ hs hYle HPZ.out).mono ?_
          rintro e w9 ⟨rfl, k9, rfl⟩
          have HK9 : Hid (Kc b _ _) := (Kc.refl b (w8.setCell ⟨b, 6, none⟩ (.slice ad8 (es.length + 1) cap8))).drewN k9
          generalize w8.setCell ⟨b, 6, none⟩ (.slice ad8 (es.length + 1) cap8) = w9 at *
          go_wp2_with fail
          go_returns
          refine .inl ⟨rfl, ?_, ?_, HBZ.out.trans (HK9.out.kb.bel HPZ.out.lt)⟩
          · rw [HZZ.out.1]; exact HYe.out
          · rw [HZZ.out.1, HZZ.out.2.1]
            exact (HPS.out HZZ.out.2.2).drewN k9
        · have td : decide (Y.a = s.size) = false := by simpa using hd
          have hYlt : Y.a < s.size := by omega
          clear hd
          go_wp2_with fail
          refine (done_any b s Y.a _ hs hYle HPZ.out).mono ?_
          rintro e w9 ⟨rfl, k9, rfl⟩
          have HK9 : Hid (Kc b (w8.setCell ⟨b, 6, none⟩ (.slice ad8 (es.length + 1) cap8)) ((w8.setCell ⟨b, 6, none⟩ (.slice ad8 (es.length + 1) cap8)).drewN k9)) := (Kc.refl b _).drewN k9
          have HP9 : Hid (PC ((w8.setCell ⟨b, 6, none⟩ (.slice ad8 (es.length + 1) cap8)).drewN k9) b s Y.a) := HPZ.out.drewN k9
          have HPS9 : Hid (ItOk tf → PS ((w8.setCell ⟨b, 6, none⟩ (.slice ad8 (es.length + 1) cap8)).drewN k9) b s Y.a (items ++ [tf])) := fun hI => (HPS.out hI).drewN k9
          have HB9 : Hid (Below b w ((w8.setCell ⟨b, 6, none⟩ (.slice ad8 (es.length + 1) cap8)).drewN k9)) := HBZ.out.trans (HK9.out.kb.bel HPZ.out.lt)
          clear HPZ HPS HBZ HK9 c6' hF'
          generalize (w8.setCell ⟨b, 6, none⟩ (.slice ad8 (es.length + 1) cap8)).drewN k9 = w9 at *
          go_wp2_with fail
          refine (pass_any b s Y 10 _ hs HYe.out hYle (by decide) HP9.out).mono ?_
          rintro e w10 (⟨rfl, hok⟩ | ⟨hb1, q1, hq1⟩)
          · have hok' : Hid (POk s b w9 w10 (rmust s Y 10)) := hok
            have HZZ : Hid (lineZ s items x = rmust s Y 10 ∧ (rline s items x).2 = tf ∧ ItOk tf) := Z2.out hYlt hok.e
            clear hok
            go_wp2_with fail
            go_returns
            refine .inl ⟨rfl, ?_, ?_, HB9.out.trans (hok'.out.kc.kb.bel HP9.out.lt)⟩
            · rw [HZZ.out.1]; exact hok'.out.e
            · rw [HZZ.out.1, HZZ.out.2.1]
              have h9 := HPS9.out HZZ.out.2.2
              exact ⟨hok'.out.pc, h9.ok, h9.len, h9.pt.elim fun nb ⟨hv, pv, ev, es, hpt⟩ => ⟨nb, hv, pv, ev, es, hpt.kc hok'.out.kc⟩⟩
          · have he' := hq1.e
            subst he'
            have hzz := Z3.out hYlt hb1
            exact ⟨rfl, .inr (QBad.of ⟨hb1, q1, hq1⟩ HP9.out.lt HB9.out hzz.1 hzz.2)⟩
    · have t35 : ((bt s y.a : Int) == 35) = false := by simp; omega
      have HPT : Hid (PT (w3.drewN 0) b nb (jn (rtable (items ++ [t]))) hv pv ev (hdrs (items ++ [t])) (prs (items ++ [t])) es items) := HPT3.out
      have HM2 : Hid ((rline s items x = (y, t) ∧ ItOk t) ∨ (y.a < s.size ∧ bt s y.a ≠ 10 ∧ (lineZ s items x).e = 3 ∧ (lineZ s items x).p = y.a)) := by
        rcases HMid.out with ⟨a1, _, a3⟩ | ⟨a1, a2, a3, a4, a5⟩
        · exact .inl ⟨by rw [a1, rnote_no HEY.out h35], a3 h35⟩
        · exact .inr ⟨a1, a3, a4, a5⟩
      clear h35 htt HPT
      have Z1 : Hid (y.a = s.size → lineZ s items x = y ∧ (rline s items x).2 = t ∧ ItOk t) := fun hq => by
        rcases HM2.out with ⟨a1, a2⟩ | ⟨a1, _⟩
        · refine ⟨?_, by rw [a1], a2⟩
          rw [lineZ_eq a1 HEY.out]; unfold endZ; rw [if_neg (by omega)]
        · omega
      have Z2 : Hid (y.a < s.size → (rmust s y 10).e = 0 → lineZ s items x = rmust s y 10 ∧ (rline s items x).2 = t ∧ ItOk t) := fun hq h0 => by
        rcases HM2.out with ⟨a1, a2⟩ | ⟨_, a2, _⟩
        · refine ⟨?_, by rw [a1], a2⟩
          rw [lineZ_eq a1 HEY.out]; unfold endZ; rw [if_pos hq]
        · rw [rmust_miss s y 10 HEY.out (by decide) a2] at h0
          cases h0
      have Z3 : Hid (y.a < s.size → (rmust s y 10).e ≠ 0 → (lineZ s items x).e = (rmust s y 10).e ∧ (lineZ s items x).p = (rmust s y 10).p) := fun hq h0 => by
        rcases HM2.out with ⟨a1, a2⟩ | ⟨_, a2, a3, a4⟩
        · rw [lineZ_eq a1 HEY.out]; unfold endZ; rw [if_pos hq]; exact ⟨rfl, rfl⟩
        · rw [rmust_miss s y 10 HEY.out (by decide) a2]
          exact ⟨a3, a4⟩
      have HYe : Hid (y.e = 0) := HEY.out
      have hYle : y.a ≤ s.size := hy3
      go_wp2_with fail
      refine (peek_any b s y.a _ hs hy3 HP3.out).mono ?_
      rintro e w4 ⟨rfl, k4, rfl⟩
      have HK4 : Hid (Kc b w3 (w3.drewN k4)) := (Kc.refl _ _).drewN k4
      have HPT : Hid (PT (w3.drewN k4) b nb (jn (rtable (items ++ [t]))) hv pv ev (hdrs (items ++ [t])) (prs (items ++ [t])) es items) := HPT3.out.kc HK4.out
      have HAW : Hid (Away (w3.drewN k4).heap.size b hv pv ev S) := HAW3.out
      have HPE : Hid (PEnt S (w3.drewN k4) (.iface tt (ptr q)) t) := HPE3.out.frame (fun k hk => HK4.out.kb.block k (HAW3.out k hk).2.1 (by have := (HAW3.out k hk).1; omega))
      have HPC' : Hid (PC (w3.drewN k4) b s y.a) := HP3.out.drewN k4
      have HBW : Hid (Below b w (w3.drewN k4)) := HB3.out.trans (HK4.out.kb.bel HP3.out.lt)
      clear HM2 HMid HK4 HPT3 HAW3 HPE3 HB3 HP3
      generalize w3.drewN k4 = W at *
      generalize hYY : y = Y at *
      generalize t = tf at *
      clear hYY
      have hc6 := HPT.out.c6
      have hFW := HPC'.out.F
      have hltW := HPC'.out.lt
      have O6 : Hid (W.ownsRow (b + 1) 93 1 ev es.length es) := HPT.out.o6
      have hesl : es.length < 4000 := by have := HPT.out.len; omega
      obtain ⟨ad6, cap6, hv6⟩ := ownsS_form O6.out
      subst hv6
      have C6 : Hid _ := hc6
      go_wp2_with (at_builtin; refine wpList_append_own_at _ rfl (.tmp 35) (.tmp 37) 79 rfl (b + 1) 93 i0 .nilIface 1 16 Tryz.underlying79 hi hz0 hz1 hz2 rfl (by decide) _ _ _ rfl (O6.out.alloc _) ⟨W.heap.size, 0, none⟩ 1 1 [.iface tt (ptr q)] rfl rfl (cell_one_new _ _ _) (by intro u hu; simp at hu; subst hu; rfl) (by unfold maxLen; omega) (by omega) (by simp; omega) ?_; intro v1 w8 hown8 hgrow8 hnil8 hat8; refine Hid.out ?_)
      have hne : (Value.slice ad6 es.length cap6).ownBlock ≠ some b := fun e => (ownsS_ne O6.out (Nat.lt_succ_self b)) e.symm
      have HA : Hid (Ap b 6 (.slice ad6 es.length cap6) W (w8.setCell ⟨b, 6, none⟩ v1) v1) := ap_mk hltW C6.out hne ((Below.refl _ _).alloc (Nat.le_refl _) _) hgrow8 hat8
      have HO : Hid ((w8.setCell ⟨b, 6, none⟩ v1).ownsRow (b + 1) 93 1 v1 (es ++ [Value.iface tt (ptr q)]).length (es ++ [Value.iface tt (ptr q)])) := by
        unfold Hid
        refine ownsS_frame (w := w8) (by simpa using hown8) (fun k k1 _ _ => Below.heap_setCell _ _ _ _ (by simp only; omega))
      have hbb : w8.heap[b]? = W.heap[b]? := (hgrow8.block b (by simp; omega) (fun e => hne e.symm)).trans (Below.heap_alloc _ _ _ hltW)
      have c6' : w8.cell? ⟨b, 6, none⟩ = some (.slice ad6 es.length cap6) := (World.cell?_of_block (w := W) hbb).trans C6.out
      have hF' : ∀ o, w8.frozen? ⟨b, o, none⟩ = false := fun o => (World.frozen?_of_block (w := W) hbb).trans (hFW o)
      obtain ⟨ad8, cap8, hv8⟩ := ownsS_form hown8
      subst hv8
      have HBZ : Hid (Below b w (w8.setCell ⟨b, 6, none⟩ (.slice ad8 (es.length + 1) cap8))) := HBW.out.trans (HA.out.below hltW (fun k hk => (O6.out.lt k hk).1))
      have HPZ : Hid (PC (w8.setCell ⟨b, 6, none⟩ (.slice ad8 (es.length + 1) cap8)) b s Y.a) := HA.out.pc HPC'.out (by decide)
      have HPS : Hid (ItOk tf → PS (w8.setCell ⟨b, 6, none⟩ (.slice ad8 (es.length + 1) cap8)) b s Y.a (items ++ [tf])) := fun hI => ps_more HPT.out HOK.out hI hlen HPC'.out HAW.out HPE.out HA.out HO.out
      clear hown8 hgrow8 hnil8 hat8 hbb hc6 C6 hFW HA HO
      unfold Hid
      by_cases hd : Y.a = s.size
      · have td : decide (Y.a = s.size) = true := by simpa using hd
        have ZZ := Z1.out hd
        have HZZ : Hid (lineZ s items x = Y ∧ (rline s items x).2 = tf ∧ ItOk tf) := ZZ
        clear ZZ hd
        go_wp2_with fail
        refine (done_any b s Y.a _ hs hYle HPZ.out).mono ?_
        rintro e w9 ⟨rfl, k9, rfl⟩
        have HK9 : Hid (Kc b _ _) := (Kc.refl b (w8.setCell ⟨b, 6, none⟩ (.slice ad8 (es.length + 1) cap8))).drewN k9
        generalize w8.setCell ⟨b, 6, none⟩ (.slice ad8 (es.length + 1) cap8) = w9 at *
        go_wp2_with fail
        go_returns
        refine .inl ⟨rfl, ?_, ?_, HBZ.out.trans (HK9.out.kb.bel HPZ.out.lt)⟩
        · rw [HZZ.out.1]; exact HYe.out
        · rw [HZZ.out.1, HZZ.out.2.1]
          exact (HPS.out HZZ.out.2.2).drewN k9
      · have td : decide (Y.a = s.size) = false := by simpa using hd
        have hYlt : Y.a < s.size := by omega
        clear hd
        go_wp2_with fail
        refine (done_any b s Y.a _ hs hYle HPZ.out).mono ?_
        rintro e w9 ⟨rfl, k9, rfl⟩
        have HK9 : Hid (Kc b (w8.setCell ⟨b, 6, none⟩ (.slice ad8 (es.length + 1) cap8)) ((w8.setCell ⟨b, 6, none⟩ (.slice ad8 (es.length + 1) cap8)).drewN k9)) := (Kc.refl b _).drewN k9
        have HP9 : Hid (PC ((w8.setCell ⟨b, 6, none⟩ (.slice ad8 (es.length + 1) cap8)).drewN k9) b s Y.a) := HPZ.out.drewN k9
        have HPS9 : Hid (ItOk tf → PS ((w8.setCell ⟨b, 6, none⟩ (.slice ad8 (es.length + 1) cap8)).drewN k9) b s Y.a (items ++ [tf])) := fun hI => (HPS.out hI).drewN k9
        have HB9 : Hid (Below b w ((w8.setCell ⟨b, 6, none⟩ (.slice ad8 (es.length + 1) cap8)).drewN k9)) := HBZ.out.trans (HK9.out.kb.bel HPZ.out.lt)
        clear HPZ HPS HBZ HK9 c6' hF'
        generalize (w8.setCell ⟨b, 6, none⟩ (.slice ad8 (es.length + 1) cap8)).drewN k9 = w9 at *
        go_wp2_with fail
        refine (pass_any b s Y 10 _ hs HYe.out hYle (by decide) HP9.out).mono ?_
        rintro e w10 (⟨rfl, hok⟩ | ⟨hb1, q1, hq1⟩)
        · have hok' : Hid (POk s b w9 w10 (rmust s Y 10)) := hok
          have HZZ : Hid (lineZ s items x = rmust s Y 10 ∧ (rline s items x).2 = tf ∧ ItOk tf) := Z2.out hYlt hok.e
          clear hok
          go_wp2_with fail
          go_returns
          refine .inl ⟨rfl, ?_, ?_, HB9.out.trans (hok'.out.kc.kb.bel HP9.out.lt)⟩
          · rw [HZZ.out.1]; exact hok'.out.e
          · rw [HZZ.out.1, HZZ.out.2.1]
            have h9 := HPS9.out HZZ.out.2.2
            exact ⟨hok'.out.pc, h9.ok, h9.len, h9.pt.elim fun nb ⟨hv, pv, ev, es, hpt⟩ => ⟨nb, hv, pv, ev, es, hpt.kc hok'.out.kc⟩⟩
        · have he' := hq1.e
          subst he'
          have hzz := Z3.out hYlt hb1
          exact ⟨rfl, .inr (QBad.of ⟨hb1, q1, hq1⟩ HP9.out.lt HB9.out hzz.1 hzz.2)⟩
  · obtain ⟨hb1, q, hq⟩ := hbad
    have he' := hq.e
    subst he'
    exact ⟨rfl, .inr (QBad.of ⟨hb1, q, hq⟩ hlt1 HB1.out z1 z2)⟩
end Go.Proofs.YtdebjhdafnpfkabGreatDoor
