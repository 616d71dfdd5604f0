import Derived.Test.YtdebjhdafnpfkaaGreatDoorRefN
namespace Go.Proofs.YtdebjhdafnpfkaaGreatDoor
open Go.ChangeShapes Go.WideShapes Go.ChangeAt Go.RowKit
set_option linter.unusedVariables false

/-- What reading a header or a pair does: the contract that the line's walk takes. -/
def ItemC (b : Nat) (s : ByteArray) (it : Value) (cs : List (List Value)) (items : List It) : Prop := ∀ (x : St) (w : World), RD w b s x it → Its w b it cs items → Inv s x → x.e = 0 →
    Calls Tryz.prog 57 #[.pointer (some ⟨b, 0, none⟩)] w fun e w' => ∃ pv fv vo, e = .returned (.agg #[.int .u8 (ritem s items x).2.k, pv, fv, .pointer vo, .string (ritem s items x).2.rem]) ∧ RD w' b s (ritem s items x).1 it ∧ Kb b w w' ∧
      RIt w.heap.size w'.heap.size w' [.int .u8 (ritem s items x).2.k, pv, fv, .pointer vo, .string (ritem s items x).2.rem] (ritem s items x).2

theorem gd_item {s : ByteArray} {x : St} (items : List It) (h : Inv s x) : Gd s x (ritem s items x).1 := by
  unfold ritem
  split
  · rename_i hr
    have h1 := gd_must (gd_blanks (gd_path (gd_blanks (gd_step (Gd.refl h) hr) false)) false) 93
    exact gd_ite (gd_no h1 (by decide)) h1
  · have h1 := gd_f (gd_val 7 0) (gd_blanks (gd_must (gd_blanks (gd_path (Gd.refl h)) false) 61) false)
    exact gd_ite (gd_no h1 (by decide)) h1
/-- A line's header, pair or nothing, and the remark behind it. -/
def rbody (s : ByteArray) (items : List It) (x : St) : St × It := if ris s x 35 = true then (x, ⟨35, [], [], V0, ⟨#[]⟩⟩) else (rblanks s (ritem s items x).1 false, (ritem s items x).2)
def rnote (s : ByteArray) (r : St × It) : St × It := if ris s r.1 35 = true then (⟨scan inLine s r.1.a, r.1.e, r.1.p⟩, ⟨r.2.k, r.2.path, r.2.full, r.2.v, s.extract r.1.a (scan inLine s r.1.a)⟩) else r
theorem rline_eq (s : ByteArray) (items : List It) (x : St) : rline s items x = if s.size ≤ (rblanks s x false).a ∨ bt s (rblanks s x false).a = 10 then (rblanks s x false, ⟨32, [], [], V0, ⟨#[]⟩⟩) else rnote s (rbody s items (rblanks s x false)) := rfl
theorem gd_note {s : ByteArray} {x : St} {r : St × It} (h : Gd s x r.1) : Gd s x (rnote s r).1 := by
  unfold rnote
  split
  · exact gd_scan h _
  · exact h
theorem gd_body {s : ByteArray} {x : St} (items : List It) (h : Inv s x) : Gd s x (rbody s items x).1 := by
  unfold rbody
  split
  · exact Gd.refl h
  · exact gd_blanks (gd_item items h) false
theorem gd_line {s : ByteArray} {x : St} (items : List It) (h : Inv s x) : Gd s x (rline s items x).1 := by
  rw [rline_eq]
  have h1 := gd_blanks (Gd.refl h) false
  split
  · exact h1
  · exact gd_note (h1.trans (gd_body items h1.1))
theorem RIt.rem' {lo hi : Nat} {w : World} {pv fv vv : Value} {t : It} (h : RIt lo hi w [.int .u8 t.k, pv, fv, vv, .string t.rem] t) (r : ByteArray) : RIt lo hi w [.int .u8 t.k, pv, fv, vv, .string r] ⟨t.k, t.path, t.full, t.v, r⟩ := by
  obtain ⟨p1, f1, v1, h1, h2, h3, h4, h5, h6, h7⟩ := h
  simp only [List.cons.injEq, and_true, true_and] at h1
  obtain ⟨e1, e2, e3⟩ := h1
  subst e1 e2 e3
  exact ⟨_, _, _, rfl, h2, h3, h4, h5, h6, h7⟩
theorem RIt.wide {lo hi lo' hi' : Nat} {w : World} {c : List Value} {t : It} (h : RIt lo hi w c t) (a1 : lo' ≤ lo) (a2 : hi ≤ hi') : RIt lo' hi' w c t := by
  obtain ⟨p1, f1, v1, h1, h2, h3, h4, h5, h6, h7⟩ := h
  exact ⟨p1, f1, v1, h1, h2.wide a1 a2, h3.wide a1 a2, fun e => by obtain ⟨q, e1, e2⟩ := h4 e; exact ⟨q, e1, e2.wide a1 a2⟩, h5, h6, h7⟩
theorem RIt.drew {lo hi : Nat} {w : World} {c : List Value} {t : It} (h : RIt lo hi w c t) : RIt lo hi w.drew c t := h.frame (fun _ _ _ => rfl)
theorem RIt.bare (lo hi : Nat) (w : World) (k : Nat) (r : ByteArray) (hk : k ≠ 61) : RIt lo hi w [.int .u8 k, .slice none 0 0, .slice none 0 0, .pointer none, .string r] ⟨k, [], [], V0, r⟩ :=
  ⟨_, _, _, rfl, RowIn.nil _ _ _ _, RowIn.nil _ _ _ _, fun e => absurd e hk, fun _ => rfl, by simp, by simp⟩

set_option maxRecDepth 100000 in
set_option maxHeartbeats 8000000 in
theorem line_any (b : Nat) (s : ByteArray) (x : St) (it : Value) (cs : List (List Value)) (items : List It) (w : World) (hs : s.size ≤ 4000) (h : RD w b s x it) (hits : Its w b it cs items) (hC : ItemC b s it cs items)
    (hinv : Inv s x) (hxe : x.e = 0) :
    Calls Tryz.prog 32 #[.pointer (some ⟨b, 0, none⟩)] w fun e w' => ∃ pv fv vo, e = .returned (.agg #[.int .u8 (rline s items x).2.k, pv, fv, .pointer vo, .string (rline s items x).2.rem]) ∧ RD w' b s (rline s items x).1 it ∧ Kb b w w' ∧
      RIt w.heap.size w'.heap.size w' [.int .u8 (rline s items x).2.k, pv, fv, .pointer vo, .string (rline s items x).2.rem] (rline s items x).2 := by
  have hlt := h.lt
  have h' : Hid (RD w b s x it) := h
  have HI : Hid (Its w b it cs items) := hits
  have HC : Hid (ItemC b s it cs items) := hC
  have hlx : x.a ≤ s.size := hinv.2 hxe
  have hg1 := gd_blanks (Gd.refl hinv) false
  have Hg1 : Hid (Inv s (rblanks s x false)) := hg1.1
  have hy1 : (rblanks s x false).a ≤ s.size := hg1.1.2 hxe
  have He1 : Hid ((rblanks s x false).e = 0) := hxe
  have hrl : Hid (rline s items x = if s.size ≤ (rblanks s x false).a ∨ bt s (rblanks s x false).a = 10 then (rblanks s x false, ⟨32, [], [], V0, ⟨#[]⟩⟩) else rnote s (rbody s items (rblanks s x false))) := rline_eq s items x
  clear h hits hC hinv hxe hg1
  have Y0 : Hid _ := XN.new w 0
  go_enter Tryz.func32, Tryz.ntmps32
  go_wp2_with fail
  refine (blanks_any b s x it false _ hs (by omega) (h'.out.alloc _)).mono ?_
  rintro e w1 ⟨rfl, hd1, hk1⟩
  have D1 : Hid (RD w1 b s (rblanks s x false) it) := hd1
  have K1 : Hid (Kb b w w1) := ((Kb.refl b w).alloc hlt _).trans hk1
  have Y1 : Hid (XN w1 w.heap.size 0 (.slice none 0 0) (.slice none 0 0) none ⟨#[]⟩) := XN.kb Y0.out hk1 (by omega)
  have hz1 : w.heap.size < w1.heap.size := Y1.out.lt
  clear hd1 hk1 Y0 h'
  generalize rblanks s x false = y at *
  have hS1 := D1.out.S
  have hA1 := D1.out.A
  have hlt1 := D1.out.lt
  obtain ⟨d0, d1, d2, d3, d4, dF, dl⟩ := Y1.out
  by_cases hemp : s.size ≤ y.a ∨ bt s y.a = 10
  · have hfin : Hid (rline s items x = (y, ⟨32, [], [], V0, ⟨#[]⟩⟩)) := by
      unfold Hid
      rw [hrl.out, if_pos hemp]
    by_cases hl : y.a < s.size
    · have td : decide ((y.a : Int) ≥ s.size) = false := by simp; omega
      have td2 : decide (s.size ≤ y.a) = false := by simp; omega
      have hbt := bt_in s y.a hl
      have t10 : ((bt s y.a : Int) == 10) = true := by simp; omega
      clear hemp
      go_wp2_with fail
      go_quiet (fail)
      go_wp2_with fail
      have XF := (Y1.out.drewN nq).put5 32 (.slice none 0 0) (.slice none 0 0) none ⟨#[]⟩
      obtain ⟨f0, f1, f2, f3, f4, fF, fl⟩ := XF
      refine bodyPost_ret (v := .agg #[.int .u8 32, .slice none 0 0, .slice none 0 0, .pointer none, .string ⟨#[]⟩]) (by push_cast [put5] at f0 f1 f2 f3 f4; simp [results, Tryz.results32, go_sem, f0, f1, f2, f3, f4]) rfl ?_
      refine ⟨_, _, none, by rw [hfin.out]; rfl, by rw [hfin.out]; exact (D1.out.drewN nq).put5 _ _ _ _ _ _ (by omega), (K1.out.drewN nq).put5 hlt _ _ _ _ _ _ (Nat.le_refl _), ?_⟩
      rw [hfin.out]
      exact RIt.bare _ _ _ 32 ⟨#[]⟩ (by decide)
    · have td : decide ((y.a : Int) ≥ s.size) = true := by simp; omega
      have td2 : decide (s.size ≤ y.a) = true := by simp; omega
      clear hemp
      go_wp2_with fail
      go_quiet (fail)
      go_wp2_with fail
      have XF := (Y1.out.drewN nq).put5 32 (.slice none 0 0) (.slice none 0 0) none ⟨#[]⟩
      obtain ⟨f0, f1, f2, f3, f4, fF, fl⟩ := XF
      refine bodyPost_ret (v := .agg #[.int .u8 32, .slice none 0 0, .slice none 0 0, .pointer none, .string ⟨#[]⟩]) (by push_cast [put5] at f0 f1 f2 f3 f4; simp [results, Tryz.results32, go_sem, f0, f1, f2, f3, f4]) rfl ?_
      refine ⟨_, _, none, by rw [hfin.out]; rfl, by rw [hfin.out]; exact (D1.out.drewN nq).put5 _ _ _ _ _ _ (by omega), (K1.out.drewN nq).put5 hlt _ _ _ _ _ _ (Nat.le_refl _), ?_⟩
      rw [hfin.out]
      exact RIt.bare _ _ _ 32 ⟨#[]⟩ (by decide)
  · have hl : y.a < s.size := by omega
    have td : decide ((y.a : Int) ≥ s.size) = false := by simp; omega
    have td2 : decide (s.size ≤ y.a) = false := by simp; omega
    have hbt := bt_in s y.a hl
    have t10 : ((bt s y.a : Int) == 10) = false := by simp; omega
    have hrl2 : Hid (rline s items x = rnote s (rbody s items y)) := by
      unfold Hid
      rw [hrl.out, if_neg hemp]
    clear hemp hrl
    go_wp2_with fail
    go_quiet (fail)
    have D2 : Hid (RD (w1.drewN nq) b s y it) := D1.out.drewN nq
    have K2 : Hid (Kb b w (w1.drewN nq)) := K1.out.drewN nq
    have Y2 : Hid (XN (w1.drewN nq) w.heap.size 0 (.slice none 0 0) (.slice none 0 0) none ⟨#[]⟩) := Y1.out.drewN nq
    have hz2 : w.heap.size < (w1.drewN nq).heap.size := hz1
    have hlt2 : b < (w1.drewN nq).heap.size := hlt1
    clear D1 K1 Y1 hz1 d0 d1 d2 d3 d4 dF dl hS1 hA1 hlt1
    generalize w1.drewN nq = wq at *
    have X3 : Hid _ := XN.new wq 35
    have Y3 : Hid _ := Y2.out.alloc (.cells #[.int .u8 35, .slice none 0 0, .slice none 0 0, .pointer none, .string ⟨#[]⟩] 72)
    have D3 : Hid _ := D2.out.alloc (.cells #[.int .u8 35, .slice none 0 0, .slice none 0 0, .pointer none, .string ⟨#[]⟩] 72)
    have K3 : Hid _ := K2.out.alloc hlt2 (.cells #[.int .u8 35, .slice none 0 0, .slice none 0 0, .pointer none, .string ⟨#[]⟩] 72)
    go_wp2_with fail
    refine (is_any b s y it 35 _ hs (by omega) D3.out).mono ?_
    rintro e w4 ⟨rfl, k4, rfl⟩
    cases h35 : ris s y 35
    · have hbody0 : Hid (rbody s items y = (rblanks s (ritem s items y).1 false, (ritem s items y).2)) := by
        unfold Hid rbody
        rw [if_neg (by rw [h35]; simp)]
      go_wp2_with fail
      refine (HC.out y _ (RD.drewN D3.out k4) (Its.kb HI.out (Kb.drewN K3.out k4)) Hg1.out He1.out).mono ?_
      rintro e w5 ⟨pv, fv, vo, rfl, hd5, hk5, hr5⟩
      have hg5 := gd_item items Hg1.out
      have D5 : Hid (RD w5 b s (ritem s items y).1 it) := hd5
      have K5 : Hid (Kb b w w5) := Kb.trans (Kb.drewN K3.out k4) hk5
      have X5 : Hid (XN w5 wq.heap.size 35 (.slice none 0 0) (.slice none 0 0) none ⟨#[]⟩) := XN.kb (XN.drewN X3.out k4) hk5 (by omega)
      have Y5 : Hid (XN w5 w.heap.size 0 (.slice none 0 0) (.slice none 0 0) none ⟨#[]⟩) := XN.kb (XN.drewN Y3.out k4) hk5 (by omega)
      have I5 : Hid (RIt (wq.heap.size + 1) w5.heap.size w5 [.int .u8 (ritem s items y).2.k, pv, fv, .pointer vo, .string (ritem s items y).2.rem] (ritem s items y).2) := hr5.wide (by simp) (Nat.le_refl _)
      have Hg5 : Hid (Inv s (ritem s items y).1) := hg5.1
      have hy5 := hg5.1.1
      have hzq : wq.heap.size + 1 ≤ w5.heap.size := by have := hk5.size; simpa using this
      clear hd5 hk5 hr5 hg5 X3 Y3 D3 K3 D2 K2 Y2
      generalize (ritem s items y).2 = t at *
      generalize (ritem s items y).1 = y5 at *
      obtain ⟨pp, ff, vv, hcc, hp5, hf5, hrest⟩ := I5.out
      simp only [List.cons.injEq, and_true, true_and] at hcc
      obtain ⟨e1, e2, e3⟩ := hcc
      subst e1 e2
      obtain ⟨ap, cp, ep⟩ := owns_form hp5.1
      subst ep
      obtain ⟨af, cf, ef⟩ := owns_form hf5.1
      subst ef
      simp only [List.length_map] at I5
      simp only [List.length_map]
      clear hp5 hf5 hrest e3
      have DT0 : Hid _ := D5.out.put5 wq.heap.size t.k (.slice ap t.path.length cp) (.slice af t.full.length cf) vo t.rem (by omega)
      have KT0 : Hid _ := K5.out.put5 hlt wq.heap.size t.k (.slice ap t.path.length cp) (.slice af t.full.length cf) vo t.rem (by omega)
      have XT0 : Hid _ := X5.out.put5 t.k (.slice ap t.path.length cp) (.slice af t.full.length cf) vo t.rem
      have YT0 : Hid (XN (put5 w5 wq.heap.size t.k (.slice ap t.path.length cp) (.slice af t.full.length cf) vo t.rem) w.heap.size 0 (.slice none 0 0) (.slice none 0 0) none ⟨#[]⟩) := Y5.out.of_block (put5_block _ _ _ _ _ _ _ _ (by omega)) (Nat.le_of_eq (put5_size _ _ _ _ _ _ _).symm)
      have IT0 : Hid (RIt (wq.heap.size + 1) w5.heap.size (put5 w5 wq.heap.size t.k (.slice ap t.path.length cp) (.slice af t.full.length cf) vo t.rem) [.int .u8 t.k, .slice ap t.path.length cp, .slice af t.full.length cf, .pointer vo, .string t.rem] t) := I5.out.frame (fun k k1 _ => put5_block _ _ _ _ _ _ _ _ (by omega))
      have ZT0 : Hid ((put5 w5 wq.heap.size t.k (.slice ap t.path.length cp) (.slice af t.full.length cf) vo t.rem).heap.size = w5.heap.size) := put5_size _ _ _ _ _ _ _
      obtain ⟨a0, a1, a2, a3, a4, aF, al⟩ := X5.out
      go_wp2_with fail
      refine (blanks_any b s y5 it false _ hs (by omega) DT0.out).mono ?_
      rintro e wt ⟨rfl, hdt, hkt⟩
      have hgt := gd_blanks (Gd.refl Hg5.out) false
      have DT : Hid (RD wt b s (rblanks s y5 false) it) := hdt
      have KT : Hid (Kb b w wt) := Kb.trans KT0.out hkt
      have XT : Hid (XN wt wq.heap.size t.k (.slice ap t.path.length cp) (.slice af t.full.length cf) vo t.rem) := XN.kb XT0.out hkt (by omega)
      have YT : Hid (XN wt w.heap.size 0 (.slice none 0 0) (.slice none 0 0) none ⟨#[]⟩) := XN.kb YT0.out hkt (by omega)
      have IT : Hid (RIt (wq.heap.size + 1) w5.heap.size wt [.int .u8 t.k, .slice ap t.path.length cp, .slice af t.full.length cf, .pointer vo, .string t.rem] t) := IT0.out.frame (fun k k1 k2 => hkt.block k (by rw [ZT0.out]; exact k2) (by omega))
      have hzt : w5.heap.size ≤ wt.heap.size := by have := hkt.size; rw [ZT0.out] at this; exact this
      have hyt := hgt.1.1
      have hbody : Hid (rbody s items y = (rblanks s y5 false, t)) := hbody0
      clear hdt hkt hgt DT0 KT0 XT0 YT0 IT0 ZT0 D5 K5 X5 Y5 I5 a0 a1 a2 a3 a4 aF al hbody0
      generalize rblanks s y5 false = yt at *
      go_wp2_with fail
      refine (is_any b s yt it 35 _ hs (by omega) DT.out).mono ?_
      rintro e w7 ⟨rfl, k7, rfl⟩
      have D8 : Hid (RD (wt.drewN k7) b s yt it) := DT.out.drewN k7
      have K8 : Hid (Kb b w (wt.drewN k7)) := KT.out.drewN k7
      have X8 : Hid (XN (wt.drewN k7) wq.heap.size t.k (.slice ap t.path.length cp) (.slice af t.full.length cf) vo t.rem) := XT.out.drewN k7
      have Y8 : Hid (XN (wt.drewN k7) w.heap.size 0 (.slice none 0 0) (.slice none 0 0) none ⟨#[]⟩) := YT.out.drewN k7
      have I8 : Hid (RIt (wq.heap.size + 1) w5.heap.size (wt.drewN k7) [.int .u8 t.k, (.slice ap t.path.length cp), (.slice af t.full.length cf), .pointer vo, .string t.rem] t) := IT.out
      have hz8 : w5.heap.size ≤ (wt.drewN k7).heap.size := hzt
      clear DT KT XT YT IT hzt
      generalize wt.drewN k7 = w8 at *
      obtain ⟨a0, a1, a2, a3, a4, aF, al⟩ := X8.out
      obtain ⟨d0, d1, d2, d3, d4, dF, dl⟩ := Y8.out
      cases hr2 : ris s yt 35
      · have hfin : Hid (rline s items x = (yt, t)) := by
          unfold Hid
          rw [hrl2.out, hbody.out]
          unfold rnote
          rw [if_neg (by rw [hr2]; simp)]
        go_wp2_with fail
        have XF := Y8.out.put5 t.k (.slice ap t.path.length cp) (.slice af t.full.length cf) vo t.rem
        obtain ⟨f0, f1, f2, f3, f4, fF, fl⟩ := XF
        refine bodyPost_ret (v := .agg #[.int .u8 t.k, (.slice ap t.path.length cp), (.slice af t.full.length cf), .pointer vo, .string t.rem]) (by push_cast [put5] at f0 f1 f2 f3 f4; simp [results, Tryz.results32, go_sem, f0, f1, f2, f3, f4]) rfl ?_
        have hsz : ∀ n, n ≤ w8.heap.size → n ≤ (put5 w8 w.heap.size t.k (.slice ap t.path.length cp) (.slice af t.full.length cf) vo t.rem).heap.size := fun n hn => by rw [put5_size]; exact hn
        refine ⟨(.slice ap t.path.length cp), (.slice af t.full.length cf), vo, by rw [hfin.out] <;> rfl, by rw [hfin.out]; exact D8.out.put5 _ _ _ _ _ _ (by omega), K8.out.put5 hlt _ _ _ _ _ _ (Nat.le_refl _), ?_⟩
        rw [hfin.out]
        dsimp only
        exact (RIt.frame I8.out (fun k k1 _ => put5_block _ _ _ _ _ _ _ _ (by omega))).wide (by omega) (hsz _ (by omega))
      · have hltt := ris_lt hr2
        have hfin0 : Hid (rline s items x = (⟨scan inLine s yt.a, yt.e, yt.p⟩, ⟨t.k, t.path, t.full, t.v, s.extract yt.a (scan inLine s yt.a)⟩)) := by
          unfold Hid
          rw [hrl2.out, hbody.out]
          unfold rnote
          rw [if_pos hr2]
        have hA8 := D8.out.A
        go_wp2_with fail
        go_loopw [] (fun wr => ∃ a' : Nat, Hid (RD wr b s ⟨a', yt.e, yt.p⟩ it) ∧ Kb b w8 wr ∧ Hid (scan inLine s yt.a = scan inLine s a') ∧ yt.a ≤ a' ∧ a' ≤ s.size) (fun wr => s.size - atOf wr b)
        case atStart => exact ⟨yt.a, D8, Kb.refl _ _, rfl, Nat.le_refl _, by omega⟩
        case round =>
          clear hA8 a0 a1 a2 a3 a4 aF al d0 d1 d2 d3 d4 dF dl
          obtain ⟨a', h1, hk, hsc, ha1, ha'⟩ := hrel
          obtain ⟨hS, hA, hE, hP, hI, hF, hltr⟩ := h1.out
          simp only at hA hE hP
          by_cases hgo : a' < s.size ∧ bt s a' ≠ 10
          · obtain ⟨hl2, hn10⟩ := hgo
            have td3 : decide (a' < s.size) = true := by simpa using hl2
            have hbt2 := bt_in s a' hl2
            have t3 : ((bt s a' : Int) != 10) = true := by simp; omega
            have hst : Hid (scan inLine s a' = scan inLine s (a' + 1)) := scan_step _ _ _ hl2 (by simpa [inLine] using hn10)
            clear hn10
            go_wp2_with fail
            go_quiet (fail)
            go_wp2_with fail
            go_roundw
            case rel => exact ⟨a' + 1, h1.out.step _, (hk.drewN _).set _ _, hsc.out.trans hst.out, by omega, by omega⟩
            case measure => rw [(h1.out.step _).atOf, h1.out.atOf]; simp only; omega
          · have hfin : Hid (rline s items x = (⟨a', yt.e, yt.p⟩, ⟨t.k, t.path, t.full, t.v, s.extract yt.a a'⟩)) := by
              unfold Hid
              rw [hfin0.out, hsc.out, scan_stop inLine s a' (fun h => by simp only [inLine, decide_eq_false_iff_not]; intro e; exact hgo ⟨h, e⟩)]
            have D9 : Hid (∀ n, RD (wr.drewN n) b s ⟨a', yt.e, yt.p⟩ it) := fun n => h1.out.drewN n
            have K9 : Hid (∀ n, Kb b w (wr.drewN n)) := fun n => (K8.out.trans hk).drewN n
            have X9 : Hid (∀ n, XN (wr.drewN n) wq.heap.size t.k (.slice ap t.path.length cp) (.slice af t.full.length cf) vo t.rem) := fun n => (X8.out.kb hk (by omega)).drewN n
            have Y9 : Hid (∀ n, XN (wr.drewN n) w.heap.size 0 (.slice none 0 0) (.slice none 0 0) none ⟨#[]⟩) := fun n => (Y8.out.kb hk (by omega)).drewN n
            have I9 : Hid (∀ n, RIt (wq.heap.size + 1) w5.heap.size (wr.drewN n) [.int .u8 t.k, (.slice ap t.path.length cp), (.slice af t.full.length cf), .pointer vo, .string t.rem] t) := fun n => I8.out.frame (fun k k1 k2 => hk.block k (by omega) (by omega))
            have hz9 : w5.heap.size ≤ wr.heap.size := Nat.le_trans hz8 hk.size
            have hcase : s.size ≤ a' ∨ (a' < s.size ∧ bt s a' = 10) := by omega
            rcases hcase with hq | ⟨hq, hq10⟩
            · have td3 : decide (a' < s.size) = false := by simp; omega
              clear hgo
              go_wp2_with fail
              go_quiet (fail)
              have D10 : Hid (RD (wr.drewN nq) b s ⟨a', yt.e, yt.p⟩ it) := D9.out nq
              have K10 : Hid (Kb b w (wr.drewN nq)) := K9.out nq
              have X10 : Hid (XN (wr.drewN nq) wq.heap.size t.k (.slice ap t.path.length cp) (.slice af t.full.length cf) vo t.rem) := X9.out nq
              have Y10 : Hid (XN (wr.drewN nq) w.heap.size 0 (.slice none 0 0) (.slice none 0 0) none ⟨#[]⟩) := Y9.out nq
              have I10 : Hid (RIt (wq.heap.size + 1) w5.heap.size (wr.drewN nq) [.int .u8 t.k, (.slice ap t.path.length cp), (.slice af t.full.length cf), .pointer vo, .string t.rem] t) := I9.out nq
              have hz10 : w5.heap.size ≤ (wr.drewN nq).heap.size := hz9
              clear hS hA hE hP hI hF hltr h1 hk D9 K9 X9 Y9 I9 hz9
              generalize wr.drewN nq = wz at *
              obtain ⟨hS, hA, hE, hP, hI, hF, hltr⟩ := D10.out
              simp only at hA hE hP
              obtain ⟨a0, a1, a2, a3, a4, aF, al⟩ := X10.out
              obtain ⟨d0, d1, d2, d3, d4, dF, dl⟩ := Y10.out
              have DW : Hid (RD (wz.setCell ⟨wq.heap.size, 4, none⟩ (.string (s.extract yt.a a'))) b s ⟨a', yt.e, yt.p⟩ it) := D10.out.set_other _ _ _ (by omega)
              have KW : Hid (Kb b w (wz.setCell ⟨wq.heap.size, 4, none⟩ (.string (s.extract yt.a a')))) := K10.out.set_new hlt _ _ _ (by omega)
              have YW : Hid (XN (wz.setCell ⟨wq.heap.size, 4, none⟩ (.string (s.extract yt.a a'))) w.heap.size 0 (.slice none 0 0) (.slice none 0 0) none ⟨#[]⟩) := Y10.out.set_other _ _ _ (by omega)
              have IW : Hid (RIt (wq.heap.size + 1) w5.heap.size (wz.setCell ⟨wq.heap.size, 4, none⟩ (.string (s.extract yt.a a'))) [.int .u8 t.k, (.slice ap t.path.length cp), (.slice af t.full.length cf), .pointer vo, .string (s.extract yt.a a')] ⟨t.k, t.path, t.full, t.v, s.extract yt.a a'⟩) := RIt.rem' (t := t) (I10.out.frame (fun k k1 _ => Below.heap_setCell _ _ _ _ (by simp only; omega))) _
              have hzW : w5.heap.size ≤ (wz.setCell ⟨wq.heap.size, 4, none⟩ (.string (s.extract yt.a a'))).heap.size := by simpa [World.setCell] using hz10
              go_wp2_with fail
              go_region
              go_wp2_with fail
              have XF := YW.out.put5 t.k (.slice ap t.path.length cp) (.slice af t.full.length cf) vo (s.extract yt.a a')
              obtain ⟨f0, f1, f2, f3, f4, fF, fl⟩ := XF
              refine bodyPost_ret (v := .agg #[.int .u8 t.k, (.slice ap t.path.length cp), (.slice af t.full.length cf), .pointer vo, .string (s.extract yt.a a')]) (by push_cast [put5] at f0 f1 f2 f3 f4; simp [results, Tryz.results32, go_sem, f0, f1, f2, f3, f4]) rfl ?_
              have hsz : ∀ n, n ≤ (wz.setCell ⟨wq.heap.size, 4, none⟩ (.string (s.extract yt.a a'))).heap.size → n ≤ (put5 (wz.setCell ⟨wq.heap.size, 4, none⟩ (.string (s.extract yt.a a'))) w.heap.size t.k (.slice ap t.path.length cp) (.slice af t.full.length cf) vo (s.extract yt.a a')).drew.heap.size := fun n hn => by
                rw [World.size_drew, put5_size]
                exact hn
              refine ⟨(.slice ap t.path.length cp), (.slice af t.full.length cf), vo, by rw [hfin.out] <;> rfl, by rw [hfin.out]; exact (DW.out.put5 _ _ _ _ _ _ (by omega)).drew, (KW.out.put5 hlt _ _ _ _ _ _ (Nat.le_refl _)).drew, ?_⟩
              rw [hfin.out]
              dsimp only
              have J1 : RIt (wq.heap.size + 1) w5.heap.size (put5 (wz.setCell ⟨wq.heap.size, 4, none⟩ (.string (s.extract yt.a a'))) w.heap.size t.k (.slice ap t.path.length cp) (.slice af t.full.length cf) vo (s.extract yt.a a')) [.int .u8 t.k, (.slice ap t.path.length cp), (.slice af t.full.length cf), .pointer vo, .string (s.extract yt.a a')] ⟨t.k, t.path, t.full, t.v, s.extract yt.a a'⟩ := RIt.frame IW.out (fun k k1 _ => put5_block _ _ _ _ _ _ _ k (by omega))
              exact (RIt.drew J1).wide (by omega) (hsz _ (by omega))
            · have td3 : decide (a' < s.size) = true := by simpa using hq
              have hbt2 := bt_in s a' hq
              have t3 : ((bt s a' : Int) != 10) = false := by simp [hq10]
              clear hgo hq10
              go_wp2_with fail
              go_quiet (fail)
              have D10 : Hid (RD (wr.drewN nq) b s ⟨a', yt.e, yt.p⟩ it) := D9.out nq
              have K10 : Hid (Kb b w (wr.drewN nq)) := K9.out nq
              have X10 : Hid (XN (wr.drewN nq) wq.heap.size t.k (.slice ap t.path.length cp) (.slice af t.full.length cf) vo t.rem) := X9.out nq
              have Y10 : Hid (XN (wr.drewN nq) w.heap.size 0 (.slice none 0 0) (.slice none 0 0) none ⟨#[]⟩) := Y9.out nq
              have I10 : Hid (RIt (wq.heap.size + 1) w5.heap.size (wr.drewN nq) [.int .u8 t.k, (.slice ap t.path.length cp), (.slice af t.full.length cf), .pointer vo, .string t.rem] t) := I9.out nq
              have hz10 : w5.heap.size ≤ (wr.drewN nq).heap.size := hz9
              clear hS hA hE hP hI hF hltr h1 hk D9 K9 X9 Y9 I9 hz9
              generalize wr.drewN nq = wz at *
              obtain ⟨hS, hA, hE, hP, hI, hF, hltr⟩ := D10.out
              simp only at hA hE hP
              obtain ⟨a0, a1, a2, a3, a4, aF, al⟩ := X10.out
              obtain ⟨d0, d1, d2, d3, d4, dF, dl⟩ := Y10.out
              have DW : Hid (RD (wz.setCell ⟨wq.heap.size, 4, none⟩ (.string (s.extract yt.a a'))) b s ⟨a', yt.e, yt.p⟩ it) := D10.out.set_other _ _ _ (by omega)
              have KW : Hid (Kb b w (wz.setCell ⟨wq.heap.size, 4, none⟩ (.string (s.extract yt.a a')))) := K10.out.set_new hlt _ _ _ (by omega)
              have YW : Hid (XN (wz.setCell ⟨wq.heap.size, 4, none⟩ (.string (s.extract yt.a a'))) w.heap.size 0 (.slice none 0 0) (.slice none 0 0) none ⟨#[]⟩) := Y10.out.set_other _ _ _ (by omega)
              have IW : Hid (RIt (wq.heap.size + 1) w5.heap.size (wz.setCell ⟨wq.heap.size, 4, none⟩ (.string (s.extract yt.a a'))) [.int .u8 t.k, (.slice ap t.path.length cp), (.slice af t.full.length cf), .pointer vo, .string (s.extract yt.a a')] ⟨t.k, t.path, t.full, t.v, s.extract yt.a a'⟩) := RIt.rem' (t := t) (I10.out.frame (fun k k1 _ => Below.heap_setCell _ _ _ _ (by simp only; omega))) _
              have hzW : w5.heap.size ≤ (wz.setCell ⟨wq.heap.size, 4, none⟩ (.string (s.extract yt.a a'))).heap.size := by simpa [World.setCell] using hz10
              go_wp2_with fail
              go_region
              go_wp2_with fail
              have XF := YW.out.put5 t.k (.slice ap t.path.length cp) (.slice af t.full.length cf) vo (s.extract yt.a a')
              obtain ⟨f0, f1, f2, f3, f4, fF, fl⟩ := XF
              refine bodyPost_ret (v := .agg #[.int .u8 t.k, (.slice ap t.path.length cp), (.slice af t.full.length cf), .pointer vo, .string (s.extract yt.a a')]) (by push_cast [put5] at f0 f1 f2 f3 f4; simp [results, Tryz.results32, go_sem, f0, f1, f2, f3, f4]) rfl ?_
              have hsz : ∀ n, n ≤ (wz.setCell ⟨wq.heap.size, 4, none⟩ (.string (s.extract yt.a a'))).heap.size → n ≤ (put5 (wz.setCell ⟨wq.heap.size, 4, none⟩ (.string (s.extract yt.a a'))) w.heap.size t.k (.slice ap t.path.length cp) (.slice af t.full.length cf) vo (s.extract yt.a a')).drew.heap.size := fun n hn => by
                rw [World.size_drew, put5_size]
                exact hn
              refine ⟨(.slice ap t.path.length cp), (.slice af t.full.length cf), vo, by rw [hfin.out] <;> rfl, by rw [hfin.out]; exact (DW.out.put5 _ _ _ _ _ _ (by omega)).drew, (KW.out.put5 hlt _ _ _ _ _ _ (Nat.le_refl _)).drew, ?_⟩
              rw [hfin.out]
              dsimp only
              have J1 : RIt (wq.heap.size + 1) w5.heap.size (put5 (wz.setCell ⟨wq.heap.size, 4, none⟩ (.string (s.extract yt.a a'))) w.heap.size t.k (.slice ap t.path.length cp) (.slice af t.full.length cf) vo (s.extract yt.a a')) [.int .u8 t.k, (.slice ap t.path.length cp), (.slice af t.full.length cf), .pointer vo, .string (s.extract yt.a a')] ⟨t.k, t.path, t.full, t.v, s.extract yt.a a'⟩ := RIt.frame IW.out (fun k k1 _ => put5_block _ _ _ _ _ _ _ k (by omega))
              exact (RIt.drew J1).wide (by omega) (hsz _ (by omega))
    · have hbody : Hid (rbody s items y = (y, ⟨35, [], [], V0, ⟨#[]⟩⟩)) := by
        unfold Hid rbody
        rw [if_pos h35]
      have DT : Hid (RD ((wq.alloc (.cells #[.int .u8 35, .slice none 0 0, .slice none 0 0, .pointer none, .string ⟨#[]⟩] 72)).drewN k4) b s y it) := RD.drewN D3.out k4
      have KT : Hid (Kb b w ((wq.alloc (.cells #[.int .u8 35, .slice none 0 0, .slice none 0 0, .pointer none, .string ⟨#[]⟩] 72)).drewN k4)) := Kb.drewN K3.out k4
      have XT : Hid (XN ((wq.alloc (.cells #[.int .u8 35, .slice none 0 0, .slice none 0 0, .pointer none, .string ⟨#[]⟩] 72)).drewN k4) wq.heap.size 35 (.slice none 0 0) (.slice none 0 0) none ⟨#[]⟩) := XN.drewN X3.out k4
      have YT : Hid (XN ((wq.alloc (.cells #[.int .u8 35, .slice none 0 0, .slice none 0 0, .pointer none, .string ⟨#[]⟩] 72)).drewN k4) w.heap.size 0 (.slice none 0 0) (.slice none 0 0) none ⟨#[]⟩) := XN.drewN Y3.out k4
      have IT : Hid (RIt (wq.heap.size + 1) (wq.heap.size + 1) ((wq.alloc (.cells #[.int .u8 35, .slice none 0 0, .slice none 0 0, .pointer none, .string ⟨#[]⟩] 72)).drewN k4) [.int .u8 35, .slice none 0 0, .slice none 0 0, .pointer none, .string ⟨#[]⟩] ⟨35, [], [], V0, ⟨#[]⟩⟩) := RIt.bare _ _ _ 35 ⟨#[]⟩ (by decide)
      have hzt : wq.heap.size + 1 ≤ ((wq.alloc (.cells #[.int .u8 35, .slice none 0 0, .slice none 0 0, .pointer none, .string ⟨#[]⟩] 72)).drewN k4).heap.size := by simp
      clear X3 Y3 D3 K3 D2 K2 Y2
      go_wp2_with fail
      generalize (wq.alloc (.cells #[.int .u8 35, .slice none 0 0, .slice none 0 0, .pointer none, .string ⟨#[]⟩] 72)).drewN k4 = wt at *
      refine (is_any b s y it 35 _ hs (by omega) DT.out).mono ?_
      rintro e w7 ⟨rfl, k7, rfl⟩
      have D8 : Hid (RD (wt.drewN k7) b s y it) := DT.out.drewN k7
      have K8 : Hid (Kb b w (wt.drewN k7)) := KT.out.drewN k7
      have X8 : Hid (XN (wt.drewN k7) wq.heap.size 35 (.slice none 0 0) (.slice none 0 0) none ⟨#[]⟩) := XT.out.drewN k7
      have Y8 : Hid (XN (wt.drewN k7) w.heap.size 0 (.slice none 0 0) (.slice none 0 0) none ⟨#[]⟩) := YT.out.drewN k7
      have I8 : Hid (RIt (wq.heap.size + 1) (wq.heap.size + 1) (wt.drewN k7) [.int .u8 35, (.slice none 0 0), (.slice none 0 0), .pointer none, .string ⟨#[]⟩] ⟨35, [], [], V0, ⟨#[]⟩⟩) := IT.out
      have hz8 : (wq.heap.size + 1) ≤ (wt.drewN k7).heap.size := hzt
      clear DT KT XT YT IT hzt
      generalize wt.drewN k7 = w8 at *
      obtain ⟨a0, a1, a2, a3, a4, aF, al⟩ := X8.out
      obtain ⟨d0, d1, d2, d3, d4, dF, dl⟩ := Y8.out
      cases hr2 : ris s y 35
      · have hfin : Hid (rline s items x = (y, ⟨35, [], [], V0, ⟨#[]⟩⟩)) := by
          unfold Hid
          rw [hrl2.out, hbody.out]
          unfold rnote
          rw [if_neg (by rw [hr2]; simp)]
        go_wp2_with fail
        have XF := Y8.out.put5 35 (.slice none 0 0) (.slice none 0 0) none ⟨#[]⟩
        obtain ⟨f0, f1, f2, f3, f4, fF, fl⟩ := XF
        refine bodyPost_ret (v := .agg #[.int .u8 35, (.slice none 0 0), (.slice none 0 0), .pointer none, .string ⟨#[]⟩]) (by push_cast [put5] at f0 f1 f2 f3 f4; simp [results, Tryz.results32, go_sem, f0, f1, f2, f3, f4]) rfl ?_
        have hsz : ∀ n, n ≤ w8.heap.size → n ≤ (put5 w8 w.heap.size 35 (.slice none 0 0) (.slice none 0 0) none ⟨#[]⟩).heap.size := fun n hn => by rw [put5_size]; exact hn
        refine ⟨(.slice none 0 0), (.slice none 0 0), none, by rw [hfin.out] <;> rfl, by rw [hfin.out]; exact D8.out.put5 _ _ _ _ _ _ (by omega), K8.out.put5 hlt _ _ _ _ _ _ (Nat.le_refl _), ?_⟩
        rw [hfin.out]
        dsimp only
        exact (RIt.frame I8.out (fun k k1 _ => put5_block _ _ _ _ _ _ _ _ (by omega))).wide (by omega) (hsz _ (by omega))
      · have hltt := ris_lt hr2
        have hfin0 : Hid (rline s items x = (⟨scan inLine s y.a, y.e, y.p⟩, ⟨35, [], [], V0, s.extract y.a (scan inLine s y.a)⟩)) := by
          unfold Hid
          rw [hrl2.out, hbody.out]
          unfold rnote
          rw [if_pos hr2]
        have hA8 := D8.out.A
        go_wp2_with fail
        go_loopw [] (fun wr => ∃ a' : Nat, Hid (RD wr b s ⟨a', y.e, y.p⟩ it) ∧ Kb b w8 wr ∧ Hid (scan inLine s y.a = scan inLine s a') ∧ y.a ≤ a' ∧ a' ≤ s.size) (fun wr => s.size - atOf wr b)
        case atStart => exact ⟨y.a, D8, Kb.refl _ _, rfl, Nat.le_refl _, by omega⟩
        case round =>
          clear hA8 a0 a1 a2 a3 a4 aF al d0 d1 d2 d3 d4 dF dl
          obtain ⟨a', h1, hk, hsc, ha1, ha'⟩ := hrel
          obtain ⟨hS, hA, hE, hP, hI, hF, hltr⟩ := h1.out
          simp only at hA hE hP
          by_cases hgo : a' < s.size ∧ bt s a' ≠ 10
          · obtain ⟨hl2, hn10⟩ := hgo
            have td3 : decide (a' < s.size) = true := by simpa using hl2
            have hbt2 := bt_in s a' hl2
            have t3 : ((bt s a' : Int) != 10) = true := by simp; omega
            have hst : Hid (scan inLine s a' = scan inLine s (a' + 1)) := scan_step _ _ _ hl2 (by simpa [inLine] using hn10)
            clear hn10
            go_wp2_with fail
            go_quiet (fail)
            go_wp2_with fail
            go_roundw
            case rel => exact ⟨a' + 1, h1.out.step _, (hk.drewN _).set _ _, hsc.out.trans hst.out, by omega, by omega⟩
            case measure => rw [(h1.out.step _).atOf, h1.out.atOf]; simp only; omega
          · have hfin : Hid (rline s items x = (⟨a', y.e, y.p⟩, ⟨35, [], [], V0, s.extract y.a a'⟩)) := by
              unfold Hid
              rw [hfin0.out, hsc.out, scan_stop inLine s a' (fun h => by simp only [inLine, decide_eq_false_iff_not]; intro e; exact hgo ⟨h, e⟩)]
            have D9 : Hid (∀ n, RD (wr.drewN n) b s ⟨a', y.e, y.p⟩ it) := fun n => h1.out.drewN n
            have K9 : Hid (∀ n, Kb b w (wr.drewN n)) := fun n => (K8.out.trans hk).drewN n
            have X9 : Hid (∀ n, XN (wr.drewN n) wq.heap.size 35 (.slice none 0 0) (.slice none 0 0) none ⟨#[]⟩) := fun n => (X8.out.kb hk (by omega)).drewN n
            have Y9 : Hid (∀ n, XN (wr.drewN n) w.heap.size 0 (.slice none 0 0) (.slice none 0 0) none ⟨#[]⟩) := fun n => (Y8.out.kb hk (by omega)).drewN n
            have I9 : Hid (∀ n, RIt (wq.heap.size + 1) (wq.heap.size + 1) (wr.drewN n) [.int .u8 35, (.slice none 0 0), (.slice none 0 0), .pointer none, .string ⟨#[]⟩] ⟨35, [], [], V0, ⟨#[]⟩⟩) := fun n => I8.out.frame (fun k k1 k2 => hk.block k (by omega) (by omega))
            have hz9 : (wq.heap.size + 1) ≤ wr.heap.size := Nat.le_trans hz8 hk.size
            have hcase : s.size ≤ a' ∨ (a' < s.size ∧ bt s a' = 10) := by omega
            rcases hcase with hq | ⟨hq, hq10⟩
            · have td3 : decide (a' < s.size) = false := by simp; omega
              clear hgo
              go_wp2_with fail
              go_quiet (fail)
              have D10 : Hid (RD (wr.drewN nq) b s ⟨a', y.e, y.p⟩ it) := D9.out nq
              have K10 : Hid (Kb b w (wr.drewN nq)) := K9.out nq
              have X10 : Hid (XN (wr.drewN nq) wq.heap.size 35 (.slice none 0 0) (.slice none 0 0) none ⟨#[]⟩) := X9.out nq
              have Y10 : Hid (XN (wr.drewN nq) w.heap.size 0 (.slice none 0 0) (.slice none 0 0) none ⟨#[]⟩) := Y9.out nq
              have I10 : Hid (RIt (wq.heap.size + 1) (wq.heap.size + 1) (wr.drewN nq) [.int .u8 35, (.slice none 0 0), (.slice none 0 0), .pointer none, .string ⟨#[]⟩] ⟨35, [], [], V0, ⟨#[]⟩⟩) := I9.out nq
              have hz10 : (wq.heap.size + 1) ≤ (wr.drewN nq).heap.size := hz9
              clear hS hA hE hP hI hF hltr h1 hk D9 K9 X9 Y9 I9 hz9
              generalize wr.drewN nq = wz at *
              obtain ⟨hS, hA, hE, hP, hI, hF, hltr⟩ := D10.out
              simp only at hA hE hP
              obtain ⟨a0, a1, a2, a3, a4, aF, al⟩ := X10.out
              obtain ⟨d0, d1, d2, d3, d4, dF, dl⟩ := Y10.out
              have DW : Hid (RD (wz.setCell ⟨wq.heap.size, 4, none⟩ (.string (s.extract y.a a'))) b s ⟨a', y.e, y.p⟩ it) := D10.out.set_other _ _ _ (by omega)
              have KW : Hid (Kb b w (wz.setCell ⟨wq.heap.size, 4, none⟩ (.string (s.extract y.a a')))) := K10.out.set_new hlt _ _ _ (by omega)
              have YW : Hid (XN (wz.setCell ⟨wq.heap.size, 4, none⟩ (.string (s.extract y.a a'))) w.heap.size 0 (.slice none 0 0) (.slice none 0 0) none ⟨#[]⟩) := Y10.out.set_other _ _ _ (by omega)
              have IW : Hid (RIt (wq.heap.size + 1) (wq.heap.size + 1) (wz.setCell ⟨wq.heap.size, 4, none⟩ (.string (s.extract y.a a'))) [.int .u8 35, (.slice none 0 0), (.slice none 0 0), .pointer none, .string (s.extract y.a a')] ⟨35, [], [], V0, s.extract y.a a'⟩) := RIt.rem' (t := ⟨35, [], [], V0, ⟨#[]⟩⟩) (I10.out.frame (fun k k1 _ => Below.heap_setCell _ _ _ _ (by simp only; omega))) _
              have hzW : (wq.heap.size + 1) ≤ (wz.setCell ⟨wq.heap.size, 4, none⟩ (.string (s.extract y.a a'))).heap.size := by simpa [World.setCell] using hz10
              go_wp2_with fail
              go_region
              go_wp2_with fail
              have XF := YW.out.put5 35 (.slice none 0 0) (.slice none 0 0) none (s.extract y.a a')
              obtain ⟨f0, f1, f2, f3, f4, fF, fl⟩ := XF
              refine bodyPost_ret (v := .agg #[.int .u8 35, (.slice none 0 0), (.slice none 0 0), .pointer none, .string (s.extract y.a a')]) (by push_cast [put5] at f0 f1 f2 f3 f4; simp [results, Tryz.results32, go_sem, f0, f1, f2, f3, f4]) rfl ?_
              have hsz : ∀ n, n ≤ (wz.setCell ⟨wq.heap.size, 4, none⟩ (.string (s.extract y.a a'))).heap.size → n ≤ (put5 (wz.setCell ⟨wq.heap.size, 4, none⟩ (.string (s.extract y.a a'))) w.heap.size 35 (.slice none 0 0) (.slice none 0 0) none (s.extract y.a a')).drew.heap.size := fun n hn => by
                rw [World.size_drew, put5_size]
                exact hn
              refine ⟨(.slice none 0 0), (.slice none 0 0), none, by rw [hfin.out] <;> rfl, by rw [hfin.out]; exact (DW.out.put5 _ _ _ _ _ _ (by omega)).drew, (KW.out.put5 hlt _ _ _ _ _ _ (Nat.le_refl _)).drew, ?_⟩
              rw [hfin.out]
              dsimp only
              have J1 : RIt (wq.heap.size + 1) (wq.heap.size + 1) (put5 (wz.setCell ⟨wq.heap.size, 4, none⟩ (.string (s.extract y.a a'))) w.heap.size 35 (.slice none 0 0) (.slice none 0 0) none (s.extract y.a a')) [.int .u8 35, (.slice none 0 0), (.slice none 0 0), .pointer none, .string (s.extract y.a a')] ⟨35, [], [], V0, s.extract y.a a'⟩ := RIt.frame IW.out (fun k k1 _ => put5_block _ _ _ _ _ _ _ k (by omega))
              exact (RIt.drew J1).wide (by omega) (hsz _ (by omega))
            · have td3 : decide (a' < s.size) = true := by simpa using hq
              have hbt2 := bt_in s a' hq
              have t3 : ((bt s a' : Int) != 10) = false := by simp [hq10]
              clear hgo hq10
              go_wp2_with fail
              go_quiet (fail)
              have D10 : Hid (RD (wr.drewN nq) b s ⟨a', y.e, y.p⟩ it) := D9.out nq
              have K10 : Hid (Kb b w (wr.drewN nq)) := K9.out nq
              have X10 : Hid (XN (wr.drewN nq) wq.heap.size 35 (.slice none 0 0) (.slice none 0 0) none ⟨#[]⟩) := X9.out nq
              have Y10 : Hid (XN (wr.drewN nq) w.heap.size 0 (.slice none 0 0) (.slice none 0 0) none ⟨#[]⟩) := Y9.out nq
              have I10 : Hid (RIt (wq.heap.size + 1) (wq.heap.size + 1) (wr.drewN nq) [.int .u8 35, (.slice none 0 0), (.slice none 0 0), .pointer none, .string ⟨#[]⟩] ⟨35, [], [], V0, ⟨#[]⟩⟩) := I9.out nq
              have hz10 : (wq.heap.size + 1) ≤ (wr.drewN nq).heap.size := hz9
              clear hS hA hE hP hI hF hltr h1 hk D9 K9 X9 Y9 I9 hz9
              generalize wr.drewN nq = wz at *
              obtain ⟨hS, hA, hE, hP, hI, hF, hltr⟩ := D10.out
              simp only at hA hE hP
              obtain ⟨a0, a1, a2, a3, a4, aF, al⟩ := X10.out
              obtain ⟨d0, d1, d2, d3, d4, dF, dl⟩ := Y10.out
              have DW : Hid (RD (wz.setCell ⟨wq.heap.size, 4, none⟩ (.string (s.extract y.a a'))) b s ⟨a', y.e, y.p⟩ it) := D10.out.set_other _ _ _ (by omega)
              have KW : Hid (Kb b w (wz.setCell ⟨wq.heap.size, 4, none⟩ (.string (s.extract y.a a')))) := K10.out.set_new hlt _ _ _ (by omega)
              have YW : Hid (XN (wz.setCell ⟨wq.heap.size, 4, none⟩ (.string (s.extract y.a a'))) w.heap.size 0 (.slice none 0 0) (.slice none 0 0) none ⟨#[]⟩) := Y10.out.set_other _ _ _ (by omega)
              have IW : Hid (RIt (wq.heap.size + 1) (wq.heap.size + 1) (wz.setCell ⟨wq.heap.size, 4, none⟩ (.string (s.extract y.a a'))) [.int .u8 35, (.slice none 0 0), (.slice none 0 0), .pointer none, .string (s.extract y.a a')] ⟨35, [], [], V0, s.extract y.a a'⟩) := RIt.rem' (t := ⟨35, [], [], V0, ⟨#[]⟩⟩) (I10.out.frame (fun k k1 _ => Below.heap_setCell _ _ _ _ (by simp only; omega))) _
              have hzW : (wq.heap.size + 1) ≤ (wz.setCell ⟨wq.heap.size, 4, none⟩ (.string (s.extract y.a a'))).heap.size := by simpa [World.setCell] using hz10
              go_wp2_with fail
              go_region
              go_wp2_with fail
              have XF := YW.out.put5 35 (.slice none 0 0) (.slice none 0 0) none (s.extract y.a a')
              obtain ⟨f0, f1, f2, f3, f4, fF, fl⟩ := XF
              refine bodyPost_ret (v := .agg #[.int .u8 35, (.slice none 0 0), (.slice none 0 0), .pointer none, .string (s.extract y.a a')]) (by push_cast [put5] at f0 f1 f2 f3 f4; simp [results, Tryz.results32, go_sem, f0, f1, f2, f3, f4]) rfl ?_
              have hsz : ∀ n, n ≤ (wz.setCell ⟨wq.heap.size, 4, none⟩ (.string (s.extract y.a a'))).heap.size → n ≤ (put5 (wz.setCell ⟨wq.heap.size, 4, none⟩ (.string (s.extract y.a a'))) w.heap.size 35 (.slice none 0 0) (.slice none 0 0) none (s.extract y.a a')).drew.heap.size := fun n hn => by
                rw [World.size_drew, put5_size]
                exact hn
              refine ⟨(.slice none 0 0), (.slice none 0 0), none, by rw [hfin.out] <;> rfl, by rw [hfin.out]; exact (DW.out.put5 _ _ _ _ _ _ (by omega)).drew, (KW.out.put5 hlt _ _ _ _ _ _ (Nat.le_refl _)).drew, ?_⟩
              rw [hfin.out]
              dsimp only
              have J1 : RIt (wq.heap.size + 1) (wq.heap.size + 1) (put5 (wz.setCell ⟨wq.heap.size, 4, none⟩ (.string (s.extract y.a a'))) w.heap.size 35 (.slice none 0 0) (.slice none 0 0) none (s.extract y.a a')) [.int .u8 35, (.slice none 0 0), (.slice none 0 0), .pointer none, .string (s.extract y.a a')] ⟨35, [], [], V0, s.extract y.a a'⟩ := RIt.frame IW.out (fun k k1 _ => put5_block _ _ _ _ _ _ _ k (by omega))
              exact (RIt.drew J1).wide (by omega) (hsz _ (by omega))
end Go.Proofs.YtdebjhdafnpfkaaGreatDoor
