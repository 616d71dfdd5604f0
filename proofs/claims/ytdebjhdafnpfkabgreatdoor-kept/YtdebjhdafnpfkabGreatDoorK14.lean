import Derived.Test.YtdebjhdafnpfkabGreatDoorK13
namespace Go.Proofs.YtdebjhdafnpfkabGreatDoor
open Go.ChangeShapes Go.WideShapes Go.ChangeAt Go.RowKit
set_option linter.unusedVariables false
set_option linter.unusedSimpArgs false
/-- The program's reader between two lines. -/
structure PS (w : World) (b : Nat) (s : ByteArray) (a : Nat) (items : List It) : Prop where
  pc : PC w b s a
  ok : ItsOk items
  len : items.length ≤ 4000
  pt : ∃ nb hv pv ev es, PT w b nb (jn (rtable items)) hv pv ev (hdrs items) (prs items) es items
/-- .. and when a line's entry was read. -/
structure EntOk (s : ByteArray) (b : Nat) (w w' : World) (y : St) (items : List It) (t : It) (v : Value) : Prop where
  e : y.e = 0
  pc : PC w' b s y.a
  bel : Below b w w'
  h : t.k = 91 → vpath t.path ∧ (jn t.path).size ≤ 4000
  p : t.k = 61 → vpath t.path ∧ vpath t.full ∧ (jn t.full).size ≤ 8001
  pt : ∃ nb hv pv ev es S, PT w' b nb (jn (rtable (items ++ [t]))) hv pv ev (hdrs (items ++ [t])) (prs (items ++ [t])) es items ∧ Away w'.heap.size b hv pv ev S ∧ PEnt S w' v t ∧ ∀ k, S k → nb ≤ k
theorem froz_new (w : World) (cs : Array Value) (t : TypeId) (q o : Nat) (hq : q = w.heap.size) : (w.alloc (.cells cs t)).frozen? ⟨q, o, none⟩ = false := by subst hq; simp
def hdrIt (p : List ByteArray) : It := ⟨91, p, [], V0, ⟨#[]⟩⟩
theorem ritem_hdr (s : ByteArray) (items : List It) (x : St) (he : x.e = 0) (h : bt s x.a = 91) : ritem s items x =
    (if (rmust s (rblanks s (rpath s (rblanks s ⟨x.a + 1, x.e, x.p⟩ false)).1 false) 93).e = 0 ∧ rtwice items (hdrIt (rpath s (rblanks s ⟨x.a + 1, x.e, x.p⟩ false)).2) = true then rno (rmust s (rblanks s (rpath s (rblanks s ⟨x.a + 1, x.e, x.p⟩ false)).1 false) 93) 6 x.a
     else rmust s (rblanks s (rpath s (rblanks s ⟨x.a + 1, x.e, x.p⟩ false)).1 false) 93, hdrIt (rpath s (rblanks s ⟨x.a + 1, x.e, x.p⟩ false)).2) := by
  unfold ritem
  rw [if_pos (by rw [ris_pk s x 91 he (by decide)]; exact decide_eq_true h)]
  rfl
theorem hdrOk_not (H P : List ByteArray) (p : ByteArray) : hdrOk H P p = !hdrNo H P p := by
  unfold hdrOk hdrNo
  rw [Bool.not_or]
theorem pairOk_not (H P : List ByteArray) (p : ByteArray) : pairOk H P p = !pairNo H P p := by
  unfold pairOk pairNo
  rw [Bool.not_or]
theorem lineAt_must {s : ByteArray} {x : St} {c : Nat} (he : x.e = 0) (hc : c ≠ 0) (h10 : c ≠ 10) (h : (rmust s x c).e = 0) : lineAt s (rmust s x c).a = lineAt s x.a := by
  by_cases hh : bt s x.a = c
  · rw [rmust_hit s x c he hc hh]
    show (if bt s x.a = 10 then _ else _) = _
    rw [if_neg (by omega)]
  · rw [rmust_miss s x c he hc hh] at h
    cases h
set_option maxRecDepth 100000 in
set_option maxHeartbeats 4000000 in
theorem readHeader_any (b : Nat) (s : ByteArray) (items : List It) (x : St) (w : World) (hs : s.size ≤ 4000) (he : x.e = 0) (hq : bt s x.a = 91) (h : PS w b s x.a items) :
    Calls Tryz.prog 63 #[.pointer (some ⟨b, 0, none⟩)] w fun e w' => (∃ q, e = .returned (ptr q) ∧ EntOk s b w w' (ritem s items x).1 items (ritem s items x).2 (.iface 124 (ptr q))) ∨ PBad s b w e w' (ritem s items x).1 := by
  have ha := bt_lt' s x.a 91 hq (by decide)
  obtain ⟨hpc, hok, hlen, nb, hv, pv, ev, es, hpt⟩ := h
  have h' : Hid (PC w b s x.a) := hpc
  have hltw := hpc.lt
  have HPT : Hid (PT w b nb (jn (rtable items)) hv pv ev (hdrs items) (prs items) es items) := hpt
  have HOK : Hid (ItsOk items) := hok
  have M : Hid (rmust s x 91 = ⟨x.a + 1, x.e, x.p⟩) := rmust_hit s x 91 he (by decide) hq
  have R : Hid _ := ritem_hdr s items x he hq
  have HE : Hid (x.e = 0) := he
  have L1 : Hid (lineAt s (x.a + 1) = lineAt s x.a) := by
    show (if bt s x.a = 10 then _ else _) = _
    rw [if_neg (by omega)]
  clear he hq hpc hok hpt
  have hH := hdrs_len items
  have hP := prs_len items
  go_enter Tryz.func63, Tryz.ntmps63
  go_wp2_with fail
  refine (pass_any b s x 91 _ hs HE.out (by omega) (by decide) h'.out).mono ?_
  rintro e w1 (⟨rfl, hok⟩ | ⟨hb, _⟩)
  · rw [M.out] at hok
    have hok' : Hid (POk s b w w1 ⟨x.a + 1, x.e, x.p⟩) := hok
    clear hok
    go_wp2_with fail
    refine (pblanks_any b s (x.a + 1) _ hs (by omega) hok'.out.pc).mono ?_
    rintro e w2 ⟨rfl, hp2, hk2⟩
    have HP2 : Hid (PC w2 b s (rblanks s ⟨x.a + 1, x.e, x.p⟩ false).a) := hp2
    have HK2 : Hid (Kc b w w2) := hok'.out.kc.trans hk2
    have hx2 : (rblanks s ⟨x.a + 1, x.e, x.p⟩ false).a ≤ s.size := scan_le _ _ _ (by show x.a + 1 ≤ _; omega)
    have HE2 : Hid ((rblanks s ⟨x.a + 1, x.e, x.p⟩ false).e = 0) := HE.out
    have L2 : Hid (lineAt s (rblanks s ⟨x.a + 1, x.e, x.p⟩ false).a = lineAt s x.a) := (lineAt_scan _ _ (by decide) _).trans L1.out
    clear hp2 hk2 hok' L1
    generalize rblanks s ⟨x.a + 1, x.e, x.p⟩ false = x2 at *
    have hgd := gd_path (Gd.refl (s := s) (x := x2) ⟨by omega, fun _ => hx2⟩)
    go_wp2_with fail
    refine (readPath_any b s x2 _ hs HE2.out hx2 HP2.out).mono ?_
    rintro e w3 (⟨rfl, hok3, hl3, hj3⟩ | ⟨hb3, q, hq⟩)
    · have hx3 : (rpath s x2).1.a ≤ s.size := hgd.1.2 hok3.e
      have hvp : Hid (vpath (rpath s x2).2) := rpath_vpath HE2.out hx2 hok3.e
      have hok3' : Hid (POk s b w2 w3 (rpath s x2).1) := hok3
      have HJ3 : Hid ((jn (rpath s x2).2).size ≤ s.size) := hj3
      have L3 : Hid (lineAt s (rpath s x2).1.a = lineAt s x.a) := hl3.trans L2.out
      clear hok3 hgd hl3 hj3
      generalize (rpath s x2).1 = x3 at *
      generalize (rpath s x2).2 = path at *
      go_wp2_with fail
      refine (pblanks_any b s x3.a _ hs hx3 hok3'.out.pc).mono ?_
      rintro e w4 ⟨rfl, hp4, hk4⟩
      have HP4 : Hid (PC w4 b s (rblanks s x3 false).a) := hp4
      have HK4 : Hid (Kc b w w4) := (HK2.out.trans hok3'.out.kc).trans hk4
      have hx4 : (rblanks s x3 false).a ≤ s.size := scan_le _ _ _ hx3
      have HE4 : Hid ((rblanks s x3 false).e = 0) := hok3'.out.e
      have L4 : Hid (lineAt s (rblanks s x3 false).a = lineAt s x.a) := (lineAt_scan _ _ (by decide) _).trans L3.out
      clear hp4 hk4
      generalize rblanks s x3 false = x4 at *
      go_wp2_with fail
      refine (pass_any b s x4 93 _ hs HE4.out hx4 (by decide) HP4.out).mono ?_
      rintro e w5 (⟨rfl, hok5⟩ | ⟨hb5, q, hq⟩)
      · have hok5' : Hid (POk s b w4 w5 (rmust s x4 93)) := hok5
        have L5 : Hid (lineAt s (rmust s x4 93).a = lineAt s x.a) := (lineAt_must HE4.out (by decide) (by decide) hok5.e).trans L4.out
        clear hok5
        have HK5 : Hid (Kc b w w5) := HK4.out.trans hok5'.out.kc
        have hz5 := HK5.out.kb.size
        have HPT5 : Hid (PT w5 b nb (jn (rtable items)) hv pv ev (hdrs items) (prs items) es items) := HPT.out.kc HK5.out
        have D1 : Hid (rtwice items (hdrIt path) = hdrNo (hdrs items) (prs items) (jn path)) := twice_hdr hvp.out HOK.out
        generalize hy5 : rmust s x4 93 = y5 at *
        clear hy5
        have hc4 := HPT5.out.c4
        have hc5 := HPT5.out.c5
        have hF5 := hok5'.out.pc.F
        have hlt5 := hok5'.out.pc.lt
        obtain ⟨ad4, cap4, hv4⟩ := ownsS_form HPT5.out.o4
        go_wp2_with fail
        refine (addHeader_any b (hdrs items) (prs items) hv pv (jn path) _ hlt5 (by have := HJ3.out; omega) (by omega) (by omega) hc4 hc5 hF5 HPT5.out.o4 HPT5.out.o5).mono ?_
        rintro e w6 (⟨hno, rfl, hw6⟩ | ⟨hyes, rfl, hv', hap, how⟩)
        · rw [hw6]
          clear hw6
          have F : Hid ((ritem s items x).1 = ⟨y5.a, 6, x.a⟩) := by
            unfold Hid
            rw [hdrOk_not] at hno
            have hno : hdrNo (hdrs items) (prs items) (jn path) = true := by simpa using hno
            rw [R.out, if_pos ⟨hok5'.out.e, by rw [D1.out]; exact hno⟩]
            exact rno_on _ _ _ hok5'.out.e
          go_wp2_with fail
          refine (fail_any b s y5.a 6 _ hok5'.out.pc).mono ?_
          rintro e w7 ⟨q, hq⟩
          have he' := hq.e
          subst he'
          refine ⟨rfl, .inr ?_⟩
          rw [F.out]
          rw [L5.out] at hq
          exact ⟨by simp, q, hq.trans HK5.out.kb⟩
        · have F : Hid (ritem s items x = (y5, hdrIt path)) := by
            unfold Hid
            rw [hdrOk_not] at hyes
            have hno : hdrNo (hdrs items) (prs items) (jn path) = false := by simpa using hyes
            rw [R.out, if_neg (by rintro ⟨_, q⟩; rw [D1.out, hno] at q; cases q)]
          have HAP : Hid (Ap b 4 hv w5 w6 hv') := hap
          have HPT6 : Hid (PT w6 b nb (jn (rtable items)) hv' pv ev (hdrs items ++ [jn path]) (prs items) es items) := HPT5.out.hdr (jn path) hap how
          have HP6 : Hid (PC w6 b s y5.a) := hap.pc hok5'.out.pc (by decide)
          have hz6 := hap.size
          have hc3 := HPT6.out.c3
          have hF6 := HP6.out.F
          have hlt6 := HP6.out.lt
          clear hap how hyes hc4 hc5 hF5
          go_wp2_with fail
          go_ret
          refine .inl ⟨_, rfl, ?_⟩
          rw [F.out]
          have HPT7 := HPT6.out.tab (jn path)
          have hz7 : (w6.setCell ⟨b, 3, none⟩ (.string (jn path))).heap.size = w6.heap.size := by simp [World.setCell]
          have hbn : Below b w w6 := (HK5.out.kb.bel hltw).trans (HAP.out.below hlt5 (fun k hk => (HPT5.out.o4.lt k hk).1))
          have hpc7 : PC (w6.setCell ⟨b, 3, none⟩ (.string (jn path))) b s y5.a :=
            ⟨(cell_set_off _ _ _ _ _ (by omega)).trans HP6.out.T, (cell_set_off _ _ _ _ _ (by omega)).trans HP6.out.A, (cell_set_off _ _ _ _ _ (by omega)).trans HP6.out.L, fun o => (World.frozen?_setCell _ _ _ _).trans (HP6.out.F o), by rw [hz7]; exact hlt6⟩
          refine ⟨hok5'.out.e, hpc7.alloc _, ?_, (fun _ => ⟨hvp.out, by have := HJ3.out; show (jn path).size ≤ 4000; omega⟩), (fun q => absurd (show (91 : Nat) = 61 from q) (by decide)), nb, hv', pv, ev, es, (fun k => k = w6.heap.size), ?_, ?_, ?_, (fun k hk => by rw [show k = w6.heap.size from hk]; exact HPT6.out.bnd)⟩
          · exact (hbn.setCell (p := ⟨b, 3, none⟩) (Nat.le_refl b) _).alloc (by rw [hz7]; exact Nat.le_of_lt hlt6) _
          · rw [rtable_snoc, hdrs_snoc, prs_snoc]
            exact HPT7.alloc (by rw [hz7]; exact hlt6) _
          · rintro k rfl
            refine ⟨hlt6, by simp [World.setCell], fun hk => ?_, fun hk => ?_, fun hk => ?_⟩
            · have := (HPT6.out.o4.lt _ hk).2; omega
            · have := (HPT6.out.o5.lt _ hk).2; omega
            · have := (HPT6.out.o6.lt _ hk).2; omega
          · refine ⟨w6.heap.size, rfl, ?_, ?_, ?_, .inl ⟨rfl, ?_, ?_⟩⟩
            · rw [World.cell?_alloc_at _ _ _ _ (by simp [World.setCell])]; rfl
            · rw [World.cell?_alloc_at _ _ _ _ (by simp [World.setCell])]; rfl
            · exact fun o => froz_new _ _ _ _ _ hz7.symm
            · rfl
            · rw [World.cell?_alloc_at _ _ _ _ (by simp [World.setCell])]; rfl
      · have he' := hq.e
        subst he'
        refine ⟨rfl, .inr ?_⟩
        have F : (ritem s items x).1 = rmust s x4 93 := by
          rw [R.out, if_neg (fun q => hb5 q.1)]
        rw [F]
        exact ⟨hb5, q, hq.trans HK4.out.kb⟩
    · have he' := hq.e
      subst he'
      refine ⟨rfl, .inr ?_⟩
      have e1 : rmust s (rblanks s (rpath s x2).1 false) 93 = rblanks s (rpath s x2).1 false := rmust_off _ _ _ hb3
      have F : (ritem s items x).1 = rblanks s (rpath s x2).1 false := by
        rw [R.out, e1, if_neg (fun q => hb3 q.1)]
      rw [F]
      exact PBad.same ⟨hb3, q, hq.trans HK2.out.kb⟩ rfl rfl
  · rw [M.out] at hb
    exact absurd HE.out hb
end Go.Proofs.YtdebjhdafnpfkabGreatDoor

namespace Go.Proofs.YtdebjhdafnpfkabGreatDoor
open Go.ChangeShapes Go.WideShapes Go.ChangeAt Go.RowKit
set_option linter.unusedVariables false
set_option linter.unusedSimpArgs false
def prIt (p full : List ByteArray) (v : V) : It := ⟨61, p, full, v, ⟨#[]⟩⟩
theorem ritem_pair (s : ByteArray) (items : List It) (x : St) (he : x.e = 0) (h : bt s x.a ≠ 91) : ritem s items x =
    (if (rval s 7 0 (rblanks s (rmust s (rblanks s (rpath s x).1 false) 61) false)).1.e = 0 ∧ rtwice items (prIt (rpath s x).2 (rtable items ++ (rpath s x).2) (rval s 7 0 (rblanks s (rmust s (rblanks s (rpath s x).1 false) 61) false)).2) = true
     then rno (rval s 7 0 (rblanks s (rmust s (rblanks s (rpath s x).1 false) 61) false)).1 6 x.a else (rval s 7 0 (rblanks s (rmust s (rblanks s (rpath s x).1 false) 61) false)).1,
     prIt (rpath s x).2 (rtable items ++ (rpath s x).2) (rval s 7 0 (rblanks s (rmust s (rblanks s (rpath s x).1 false) 61) false)).2) := by
  unfold ritem
  rw [if_neg (by rw [ris_pk s x 91 he (by decide)]; simpa using h)]
  rfl
/-- A pair's full path, as text. -/
theorem full_none {T P : List ByteArray} (h : T = []) : jn (T ++ P) = jn P := by rw [h]; rfl
theorem full_some {T P : List ByteArray} (h : T ≠ []) (hp : P ≠ []) : jn (T ++ P) = jn T ++ ⟨#[46]⟩ ++ jn P := jn_app h hp
set_option maxRecDepth 100000 in
set_option maxHeartbeats 4000000 in
theorem readPair_any (b : Nat) (s : ByteArray) (items : List It) (x : St) (w : World) (m : Int) (hs : s.size ≤ 4000) (he : x.e = 0) (ha : x.a ≤ s.size) (hq : bt s x.a ≠ 91) (hG : 1 < b)
    (hm : w.cell? ⟨1, 0, none⟩ = some (.int .i64 m)) (h : PS w b s x.a items) :
    Calls Tryz.prog 65 #[.pointer (some ⟨b, 0, none⟩)] w fun e w' => (∃ q, e = .returned (ptr q) ∧ EntOk s b w w' (ritem s items x).1 items (ritem s items x).2 (.iface 61 (ptr q))) ∨ PBad s b w e w' (ritem s items x).1 := by
  obtain ⟨hpc, hok, hlen, nb, hv, pv, ev, es, hpt⟩ := h
  have h' : Hid (PC w b s x.a) := hpc
  have hltw := hpc.lt
  have hLL := hpc.L
  have HPT : Hid (PT w b nb (jn (rtable items)) hv pv ev (hdrs items) (prs items) es items) := hpt
  have HOK : Hid (ItsOk items) := hok
  have R : Hid _ := ritem_pair s items x he hq
  have HE : Hid (x.e = 0) := he
  have Hm : Hid _ := hm
  have HT : Hid (rtable items = [] ∨ (vpath (rtable items) ∧ (jn (rtable items)).size ≤ 4000)) := rtable_ok hok
  clear he hq hpc hok hpt hm
  have hH := hdrs_len items
  have hP := prs_len items
  have hgd := gd_path (Gd.refl (s := s) (x := x) ⟨by omega, fun _ => ha⟩)
  go_enter Tryz.func65, Tryz.ntmps65
  go_wp2_with fail
  refine (readPath_any b s x _ hs HE.out ha h'.out).mono ?_
  rintro e w3 (⟨rfl, hok3, hl3, hj3⟩ | ⟨hb3, q, hq⟩)
  · have hx3 : (rpath s x).1.a ≤ s.size := hgd.1.2 hok3.e
    have hvp : Hid (vpath (rpath s x).2) := rpath_vpath HE.out ha hok3.e
    have hok3' : Hid (POk s b w w3 (rpath s x).1) := hok3
    have HJ3 : Hid ((jn (rpath s x).2).size ≤ s.size) := hj3
    clear hok3 hgd hl3 hj3
    generalize (rpath s x).1 = x3 at *
    generalize (rpath s x).2 = path at *
    go_wp2_with fail
    refine (pblanks_any b s x3.a _ hs hx3 hok3'.out.pc).mono ?_
    rintro e w4 ⟨rfl, hp4, hk4⟩
    have HP4 : Hid (PC w4 b s (rblanks s x3 false).a) := hp4
    have HK4 : Hid (Kc b w w4) := hok3'.out.kc.trans hk4
    have hx4 : (rblanks s x3 false).a ≤ s.size := scan_le _ _ _ hx3
    have HE4 : Hid ((rblanks s x3 false).e = 0) := hok3'.out.e
    clear hp4 hk4
    generalize rblanks s x3 false = x4 at *
    have hgm := gd_must (Gd.refl (x := x4) (s := s) ⟨by omega, fun _ => hx4⟩) 61
    go_wp2_with fail
    refine (pass_any b s x4 61 _ hs HE4.out hx4 (by decide) HP4.out).mono ?_
    rintro e w5 (⟨rfl, hok5⟩ | ⟨hb5, q, hq⟩)
    · have hok5' : Hid (POk s b w4 w5 (rmust s x4 61)) := hok5
      have hx5 : (rmust s x4 61).a ≤ s.size := hgm.1.2 hok5.e
      clear hok5 hgm
      generalize rmust s x4 61 = x5 at *
      go_wp2_with fail
      refine (pblanks_any b s x5.a _ hs hx5 hok5'.out.pc).mono ?_
      rintro e w6 ⟨rfl, hp6, hk6⟩
      have HP6 : Hid (PC w6 b s (rblanks s x5 false).a) := hp6
      have HK6 : Hid (Kc b w w6) := (HK4.out.trans hok5'.out.kc).trans hk6
      have hx6 : (rblanks s x5 false).a ≤ s.size := scan_le _ _ _ hx5
      have HE6 : Hid ((rblanks s x5 false).e = 0) := hok5'.out.e
      clear hp6 hk6
      generalize rblanks s x5 false = x6 at *
      go_wp2_with fail
      refine (pvalue_any b s m hs hG x6 _ HE6.out hx6 (cell_kc (b := b) Hm.out hG HK6.out) HP6.out).mono ?_
      rintro e w7 (⟨v, rfl, hpv, hok7⟩ | ⟨hb7, q, hq⟩)
      · obtain ⟨vt, vu, rfl⟩ := hpv.iface
        have hpv' : Hid (PVal 7 w6.heap.size w7.heap.size w7 (.iface vt vu) (rval s 7 0 x6).2) := hpv
        have hok7' : Hid (POk s b w6 w7 (rval s 7 0 x6).1) := hok7
        clear hpv hok7
        generalize (rval s 7 0 x6).1 = y7 at *
        generalize (rval s 7 0 x6).2 = vv at *
        have HK7 : Hid (Kc b w w7) := HK6.out.trans hok7'.out.kc
        have hz7 := hok7'.out.kc.kb.size
        have hz6 := HK6.out.kb.size
        have HPT7 : Hid (PT w7 b nb (jn (rtable items)) hv pv ev (hdrs items) (prs items) es items) := HPT.out.kc HK7.out
        have hvf : Hid (vpath (rtable items ++ path)) := vpath_app (HT.out.imp id (fun q => q.1)) hvp.out
        have D1 : Hid (rtwice items (prIt path (rtable items ++ path) vv) = pairNo (hdrs items) (prs items) (jn (rtable items ++ path))) := twice_pair hvf.out HOK.out
        have hc3 := HPT7.out.c3
        have hF7 := hok7'.out.pc.F
        have hlt7 := hok7'.out.pc.lt
        have hfs : Hid ((jn (rtable items ++ path)).size ≤ 8001) := by
          unfold Hid
          have := HJ3.out
          rcases HT.out with q | q
          · rw [full_none q]; omega
          · rw [full_some q.1.1 hvp.out.1, ByteArray.size_append, ByteArray.size_append]
            have : (⟨#[46]⟩ : ByteArray).size = 1 := rfl
            omega
        have Rest : Hid (∀ full, full = jn (rtable items ++ path) → Calls Tryz.prog 77 #[.pointer (some ⟨b, 4, none⟩), .string full] w7 fun e w' =>
            (e = .returned (.bool false) ∧ (ritem s items x).1 = ⟨y7.a, 6, x.a⟩ ∧ w' = w7) ∨
            (e = .returned (.bool true) ∧ ritem s items x = (y7, prIt path (rtable items ++ path) vv) ∧ ∃ pv', Ap b 5 pv w7 w' pv' ∧ PT w' b nb (jn (rtable items)) hv pv' ev (hdrs items) (prs items ++ [jn (rtable items ++ path)]) es items)) := by
          rintro full rfl
          refine (addPair_any b (hdrs items) (prs items) hv pv _ _ hlt7 (by have := hfs.out; omega) (by omega) (by omega) (hdrs_size HOK.out) (prs_size HOK.out) HPT7.out.c4 HPT7.out.c5 hF7 HPT7.out.o4 HPT7.out.o5).mono ?_
          rintro e w' (⟨hno, rfl, hw⟩ | ⟨hyes, rfl, pv', hap, how⟩)
          · rw [pairOk_not] at hno
            have hno : pairNo (hdrs items) (prs items) (jn (rtable items ++ path)) = true := by simpa using hno
            refine .inl ⟨rfl, ?_, hw⟩
            rw [R.out, if_pos ⟨hok7'.out.e, by rw [D1.out]; exact hno⟩]
            exact rno_on _ _ _ hok7'.out.e
          · rw [pairOk_not] at hyes
            have hno : pairNo (hdrs items) (prs items) (jn (rtable items ++ path)) = false := by simpa using hyes
            refine .inr ⟨rfl, ?_, pv', hap, HPT7.out.pair _ hap how⟩
            rw [R.out, if_neg (by rintro ⟨_, q⟩; rw [D1.out, hno] at q; cases q)]
        have Fin : Hid (∀ (w8 : World) (pv' : Value), Ap b 5 pv w7 w8 pv' → PT w8 b nb (jn (rtable items)) hv pv' ev (hdrs items) (prs items ++ [jn (rtable items ++ path)]) es items → ritem s items x = (y7, prIt path (rtable items ++ path) vv) →
            EntOk s b w (w8.alloc (.cells #[.string ⟨#[]⟩, .bool false, .string (jn path), .string (jn (rtable items ++ path)), .iface vt vu] 68)) (ritem s items x).1 items (ritem s items x).2 (.iface 61 (ptr w8.heap.size))) := by
          intro w8 pv' hap hpt8 hri
          rw [hri]
          have hz8 := hap.size
          have hpc8 := hap.pc hok7'.out.pc (by decide)
          have hbn : Below b w w8 := (HK7.out.kb.bel hltw).trans (hap.below hlt7 (fun k hk => (HPT7.out.o5.lt k hk).1))
          refine ⟨hok7'.out.e, hpc8.alloc _, hbn.alloc (Nat.le_of_lt hpc8.lt) _, (fun q => absurd (show (61 : Nat) = 91 from q) (by decide)), (fun _ => ⟨hvp.out, hvf.out, hfs.out⟩), nb, hv, pv', ev, es, (fun k => k = w8.heap.size ∨ (w6.heap.size ≤ k ∧ k < w7.heap.size)), ?_, ?_, ?_, (fun k hk => by have q1 := (HPT.out.kc HK6.out).bnd; have q2 := hpt8.bnd; rcases hk with hk | hk <;> omega)⟩
          · rw [rtable_snoc, hdrs_snoc, prs_snoc]
            exact hpt8.alloc hpc8.lt _
          · rintro k (rfl | ⟨k1, k2⟩)
            · refine ⟨hpc8.lt, by simp, fun hk => ?_, fun hk => ?_, fun hk => ?_⟩
              · have := (hpt8.o4.lt _ hk).2; omega
              · have := (hpt8.o5.lt _ hk).2; omega
              · have := (hpt8.o6.lt _ hk).2; omega
            · have HPT6 := HPT.out.kc HK6.out
              refine ⟨by omega, by simp; omega, fun hk => ?_, own_new hap k2 (fun hk => ?_), fun hk => ?_⟩
              · have := (HPT6.o4.lt _ hk).2; omega
              · have := (HPT6.o5.lt _ hk).2; omega
              · have := (HPT6.o6.lt _ hk).2; omega
          · have HPT6 := HPT.out.kc HK6.out
            refine ⟨w8.heap.size, .inl rfl, ?_, ?_, fun o => froz_new _ _ _ _ _ rfl, .inr (.inl ⟨rfl, rfl, ?_, ?_, .iface vt vu, w6.heap.size, w7.heap.size, ?_, fun k k1 k2 => ⟨.inr ⟨k1, k2⟩, by omega⟩, ?_⟩)⟩
            · rw [World.cell?_alloc_at _ _ _ _ rfl]; rfl
            · rw [World.cell?_alloc_at _ _ _ _ rfl]; rfl
            · rw [World.cell?_alloc_at _ _ _ _ rfl]; rfl
            · rw [World.cell?_alloc_at _ _ _ _ rfl]; rfl
            · rw [World.cell?_alloc_at _ _ _ _ rfl]; rfl
            · refine hpv'.out.frame (fun k k1 k2 => ?_)
              rw [Below.heap_alloc _ _ _ (by omega)]
              exact hap.block k k2 (by omega) (fun hk => by have := (HPT6.o5.lt _ hk).2; omega)
        rcases HT.out with hT | hT
        · have te : (jn (rtable items)).toList.isEmpty = true := by rw [toList_empty, hT]; rfl
          have HF : Hid (jn path = jn (rtable items ++ path)) := (full_none hT).symm
          clear hT R
          generalize jn (rtable items) = tab at *
          go_wp2_with fail
          refine (Rest.out _ HF.out).mono ?_
          rintro e w8 (⟨rfl, hri, hw8⟩ | ⟨rfl, hri, pv', hap, hpt8⟩)
          · rw [hw8]
            clear hw8
            have Hri : Hid ((ritem s items x).1 = ⟨y7.a, 6, x.a⟩) := hri
            clear hri
            go_wp2_with fail
            refine (failAt_any b 6 (lineAt s x.a) _ hlt7).mono ?_
            rintro e w9 ⟨q, hq⟩
            have he' := hq.e
            subst he'
            refine ⟨rfl, .inr ?_⟩
            rw [Hri.out]
            exact ⟨by simp, q, hq.trans HK7.out.kb⟩
          · have HH : Hid _ := Fin.out w8 pv' hap hpt8 hri
            clear hap hpt8 hri
            go_wp2_with fail
            go_ret
            have hh := HH.out
            rw [← HF.out] at hh
            exact .inl ⟨_, rfl, hh⟩
        · have te : (jn (rtable items)).toList.isEmpty = false := by rw [toList_empty]; exact decide_eq_false (jn_size hT.1)
          have HF : Hid (jn (rtable items) ++ ⟨#[46]⟩ ++ jn path = jn (rtable items ++ path)) := (full_some hT.1.1 hvp.out.1).symm
          have hts := hT.2
          have hjs : (jn path).size ≤ 4000 := by have := HJ3.out; omega
          clear hT R
          generalize jn (rtable items) = tab at *
          go_wp2_with fail
          refine (Rest.out _ HF.out).mono ?_
          rintro e w8 (⟨rfl, hri, hw8⟩ | ⟨rfl, hri, pv', hap, hpt8⟩)
          · rw [hw8]
            clear hw8
            have Hri : Hid ((ritem s items x).1 = ⟨y7.a, 6, x.a⟩) := hri
            clear hri
            go_wp2_with fail
            refine (failAt_any b 6 (lineAt s x.a) _ hlt7).mono ?_
            rintro e w9 ⟨q, hq⟩
            have he' := hq.e
            subst he'
            refine ⟨rfl, .inr ?_⟩
            rw [Hri.out]
            exact ⟨by simp, q, hq.trans HK7.out.kb⟩
          · have HH : Hid _ := Fin.out w8 pv' hap hpt8 hri
            clear hap hpt8 hri
            rw [HF.out]
            go_wp2_with fail
            go_ret
            exact .inl ⟨_, rfl, HH.out⟩
      · have he' := hq.e
        subst he'
        refine ⟨rfl, .inr ?_⟩
        have F : (ritem s items x).1 = (rval s 7 0 x6).1 := by
          rw [R.out, if_neg (fun q => hb7 q.1)]
        rw [F]
        exact ⟨hb7, q, hq.trans HK6.out.kb⟩
    · have he' := hq.e
      subst he'
      refine ⟨rfl, .inr ?_⟩
      have hsk := stk_val s 7 0 (rblanks s (rmust s x4 61) false) hb5
      have hb6 : (rval s 7 0 (rblanks s (rmust s x4 61) false)).1.e ≠ 0 := by rw [hsk.1]; exact hb5
      have F : (ritem s items x).1 = (rval s 7 0 (rblanks s (rmust s x4 61) false)).1 := by
        rw [R.out, if_neg (fun q => hb6 q.1)]
      rw [F]
      exact PBad.same ⟨hb5, q, hq.trans HK4.out.kb⟩ hsk.1 hsk.2
  · have he' := hq.e
    subst he'
    refine ⟨rfl, .inr ?_⟩
    have e1 : rmust s (rblanks s (rpath s x).1 false) 61 = rblanks s (rpath s x).1 false := rmust_off _ _ _ hb3
    have hsk := stk_val s 7 0 (rblanks s (rblanks s (rpath s x).1 false) false) hb3
    have hb6 : (rval s 7 0 (rblanks s (rblanks s (rpath s x).1 false) false)).1.e ≠ 0 := by rw [hsk.1]; exact hb3
    have F : (ritem s items x).1 = (rval s 7 0 (rblanks s (rblanks s (rpath s x).1 false) false)).1 := by
      rw [R.out, e1, if_neg (fun q => hb6 q.1)]
    rw [F]
    exact PBad.same ⟨hb3, q, hq⟩ hsk.1 hsk.2
end Go.Proofs.YtdebjhdafnpfkabGreatDoor
