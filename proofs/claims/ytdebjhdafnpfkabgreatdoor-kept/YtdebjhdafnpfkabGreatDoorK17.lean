import Derived.Test.YtdebjhdafnpfkabGreatDoorK02
import Derived.Test.YtdebjhdafnpfkabGreatDoorK01
namespace Go.Proofs.YtdebjhdafnpfkabGreatDoor
open Go.ChangeShapes Go.WideShapes Go.ChangeAt Go.RowKit
set_option linter.unusedVariables false
set_option linter.unusedSimpArgs false
theorem take_mayStand (b : Nat) (s : ByteArray) (a : Nat) (w : World) (hs : s.size ≤ 4000) (ha : a ≤ s.size) (h : PC w b s a) :
    Calls Tryz.prog 42 #[.pointer (some ⟨b, 0, none⟩), .func (.func 43) #[] #[]] w fun e w' =>
      e = .returned (.string (s.extract a (scan (okByte) s a))) ∧ PC w' b s (scan (okByte) s a) ∧ Kc b w w' := by
  have hA := h.A
  have h' : Hid (PC w b s a) := h
  clear h
  go_enter Tryz.func42, Tryz.ntmps42
  go_wp2
  go_loopw [] (fun wr => ∃ a' : Nat, Hid (PC wr b s a') ∧ Kc b w wr ∧ Hid (scan (okByte) s a = scan (okByte) s a') ∧ a ≤ a' ∧ a' ≤ s.size) (fun wr => s.size - atOf wr b)
  case atStart => exact ⟨a, h', Kc.refl _ _, rfl, Nat.le_refl _, ha⟩
  case round =>
    clear h' hA
    obtain ⟨a', h1, hk, hsc, ha1, ha'⟩ := hrel
    obtain ⟨hT, hA, hL, hF, hlt⟩ := h1.out
    by_cases hl : a' < s.size
    · have hd : decide (a' = s.size) = false := by simp; omega
      have hbt := bt_in s a' hl
      cases hb : (okByte) (bt s a')
      · have hfin : Hid (scan (okByte) s a = a') := by
          unfold Hid
          rw [hsc.out, scan_stop _ _ _ (fun _ => hb)]
        go_wp2
        go_quiet (first | (go_at_call 29; exact Calls.quiet_of (done_any b s a' _ hs ha' (h1.out.drewN _))) | (go_at_call 43; exact Calls.quiet_of_same (mayStand_any _ _ (bt_lt _ _))))
        go_wp2
        go_quiet (fail)
        go_wp2
        go_ret
        exact ⟨ret_str' (by rw [hfin.out]), by rw [hfin.out]; exact (h1.out.drewN _).drewN _, (hk.drewN _).drewN _⟩
      · have hst : Hid (scan (okByte) s a' = scan (okByte) s (a' + 1)) := scan_step _ _ _ hl hb
        go_wp2
        go_quiet (first | (go_at_call 29; exact Calls.quiet_of (done_any b s a' _ hs ha' (h1.out.drewN _))) | (go_at_call 43; exact Calls.quiet_of_same (mayStand_any _ _ (bt_lt _ _))))
        go_wp2_with fail
        refine (step_any b s a' _ hs hl (h1.out.drewN _)).mono ?_
        rintro e w1 ⟨rfl, h2, hk2⟩
        have h2' : Hid (PC w1 b s (a' + 1)) := h2
        clear h2
        go_wp2
        go_roundw
        case rel => exact ⟨a' + 1, h2', (hk.drewN _).trans hk2, hsc.out.trans hst.out, by omega, by omega⟩
        case measure => rw [h2'.out.atOf, h1.out.atOf]; omega
    · have e1 : a' = s.size := by omega
      have hd : decide (a' = s.size) = true := by simp; omega
      have hfin : Hid (scan (okByte) s a = a') := by
        unfold Hid
        rw [hsc.out, scan_stop _ _ _ (fun h => absurd h hl)]
      have H : Hid (a' = s.size) := e1
      clear e1
      go_wp2
      go_quiet ((go_at_call 29; exact Calls.quiet_of (done_any b s a' _ hs ha' (h1.out.drewN _))))
      go_wp2
      go_quiet (fail)
      go_wp2
      go_ret
      exact ⟨ret_str' (by rw [hfin.out]), by rw [hfin.out]; exact (h1.out.drewN _).drewN _, (hk.drewN _).drewN _⟩
end Go.Proofs.YtdebjhdafnpfkabGreatDoor

namespace Go.Proofs.YtdebjhdafnpfkabGreatDoor
set_option linter.unusedVariables false
set_option linter.unusedSimpArgs false
/-- What is wrong is of a kind with a place, and the place lies in the text. -/
def ErrIn (s : ByteArray) (y : St) : Prop := y.e ≠ 0 → y.e ≠ 1 ∧ y.p ≤ s.size
theorem e_no {s : ByteArray} {y : St} {k q : Nat} (h : ErrIn s y) (h1 : k ≠ 1) (hq : y.e = 0 → q ≤ s.size) : ErrIn s (rno y k q) := by
  by_cases he : y.e = 0
  · rw [rno_on _ _ _ he]
    exact fun _ => ⟨h1, hq he⟩
  · rw [rno_off _ _ _ he]
    exact h
theorem e_ite {s : ByteArray} {a b : St} {c : Prop} [Decidable c] (h1 : ErrIn s a) (h2 : ErrIn s b) : ErrIn s (if c then a else b) := by
  split
  · exact h1
  · exact h2
theorem e_itep {α : Type} {s : ByteArray} {a b : St × α} {c : Prop} [Decidable c] (h1 : ErrIn s a.1) (h2 : ErrIn s b.1) : ErrIn s (if c then a else b).1 := by
  split
  · exact h1
  · exact h2
theorem e_must {s : ByteArray} {y : St} (hi : Inv s y) (h : ErrIn s y) (c : Nat) : ErrIn s (rmust s y c) := by
  unfold rmust
  split
  · exact h
  · exact e_no h (by decide) hi.2
theorem e_blanks {s : ByteArray} {y : St} (h : ErrIn s y) (l : Bool) : ErrIn s (rblanks s y l) := h
theorem inv_blanks {s : ByteArray} {y : St} (h : Inv s y) (l : Bool) : Inv s (rblanks s y l) := (gd_blanks (Gd.refl h) l).1
theorem inv_must {s : ByteArray} {y : St} (h : Inv s y) (c : Nat) : Inv s (rmust s y c) := (gd_must (Gd.refl h) c).1
theorem inv_name {s : ByteArray} {y : St} (h : Inv s y) : Inv s (rname s y).1 := (gd_name (Gd.refl h)).1
theorem e_name {s : ByteArray} {x : St} (hi : Inv s x) (h : ErrIn s x) : ErrIn s (rname s x).1 := by
  simp only [rname, rrun]
  have h1 : ErrIn s ⟨scan letterB s x.a, x.e, x.p⟩ := h
  have hq : ∀ {z : St}, z.e = 0 → Stk x z → x.a ≤ s.size := fun {z} hz hs => hi.2 (Classical.byContradiction fun hx => hx (by have := (hs hx).1; rw [hz] at this; exact this.symm))
  have h2 : ErrIn s (if (s.extract x.a (scan letterB s x.a)).size = 0 then rno ⟨scan letterB s x.a, x.e, x.p⟩ 3 x.a else ⟨scan letterB s x.a, x.e, x.p⟩) := e_ite (e_no h1 (by decide) (fun e => hi.2 e)) h1
  refine e_ite (e_no h2 (by decide) (fun e => hq e ?_)) h2
  exact stk_ite ((stk_at x _).trans (stk_no _ _ _)) (stk_at x _)
theorem back {x y : St} (h : Stk x y) (hy : y.e = 0) : x.e = 0 := Classical.byContradiction fun hx => hx (by have := (h hx).1; rw [hy] at this; exact this.symm)
theorem e_pathLoop {s : ByteArray} : ∀ (n : Nat) (x : St) (l : List ByteArray), Inv s x → ErrIn s x → ErrIn s (rpathLoop s n x l).1
  | 0, x, l, _, h => h
  | n + 1, x, l, hi, h => by
    simp only [rpathLoop]
    split
    · rename_i hr
      exact e_pathLoop n _ _ (gd_step (Gd.refl (inv_name hi)) hr).1 (e_name hi h)
    · exact e_name hi h
theorem e_path {s : ByteArray} {x : St} (hi : Inv s x) (h : ErrIn s x) : ErrIn s (rpath s x).1 := by
  simp only [rpath]
  have h1 := e_pathLoop (s.size + 1 - x.a) x [] hi h
  exact e_ite (e_no h1 (by decide) (fun e => hi.2 (back (stk_pathLoop s _ x []) e))) h1
theorem e_word {s : ByteArray} {x : St} (hi : Inv s x) (h : ErrIn s x) : ErrIn s (rword s x).1 := by
  simp only [rword, rwordAt, rrun]
  have hx : ∀ c : Prop, [Decidable c] → (if c then (⟨x.a + 1, x.e, x.p⟩ : St) else x).e = x.e ∧ (if c then (⟨x.a + 1, x.e, x.p⟩ : St) else x).p = x.p := by
    intro c _
    split <;> exact ⟨rfl, rfl⟩
  generalize hz : (if ris s x 45 = true ∨ ris s x 43 = true then (⟨x.a + 1, x.e, x.p⟩ : St) else x) = z
  have hz2 := hx (ris s x 45 = true ∨ ris s x 43 = true)
  rw [hz] at hz2
  have h1 : ∀ a, ErrIn s ⟨a, z.e, z.p⟩ := fun a => by
    unfold ErrIn
    rw [show (⟨a, z.e, z.p⟩ : St).e = x.e from hz2.1, show (⟨a, z.e, z.p⟩ : St).p = x.p from hz2.2]
    exact h
  have hb : ∀ a, (⟨a, z.e, z.p⟩ : St).e = 0 → x.a ≤ s.size := fun a e => hi.2 (by rw [← hz2.1]; exact e)
  exact e_itep (h1 _) (e_itep (e_no (h1 _) (by decide) (hb _)) (e_ite (e_no (h1 _) (by decide) (hb _)) (h1 _)))
theorem e_resc {s : ByteArray} {x : St} (hi : Inv s x) (h : ErrIn s x) : ErrIn s (rescSt s x) := by
  unfold rescSt
  exact e_ite h (e_no h (by decide) hi.2)
theorem e_textLoop {s : ByteArray} : ∀ (n : Nat) (x : St) (t : ByteArray), Inv s x → ErrIn s x → ErrIn s (rtextLoop s n x t).1
  | 0, x, t, _, h => h
  | n + 1, x, t, hi, h => by
    simp only [rtextLoop]
    split
    · exact h
    · rename_i he
      have e0 : x.e = 0 := Classical.byContradiction he
      split
      · exact e_no h (by decide) hi.2
      · rename_i hl
        have h1 : Inv s ⟨x.a + 1, x.e, x.p⟩ := ⟨by show x.a + 1 ≤ _; omega, fun _ => by show x.a + 1 ≤ _; omega⟩
        split
        · exact h
        · split
          · by_cases hE : (rescSt s ⟨x.a + 1, x.e, x.p⟩).e = 0
            · refine e_textLoop n _ _ ?_ (e_resc h1 h)
              have hr : rescSt s ⟨x.a + 1, x.e, x.p⟩ = ⟨x.a + 1, x.e, x.p⟩ ∧ x.a + 1 < s.size := by
                cases hb : escB (bt s (x.a + 1))
                · rw [rescSt_bad s ⟨x.a + 1, x.e, x.p⟩ e0 hb] at hE
                  cases hE
                · refine ⟨rescSt_ok s ⟨x.a + 1, x.e, x.p⟩ e0 hb, ?_⟩
                  rcases Nat.lt_or_ge (x.a + 1) s.size with q | q
                  · exact q
                  · rw [bt_end s _ q] at hb
                    exact absurd hb (by decide)
              rw [hr.1]
              exact ⟨by show x.a + 1 + 1 ≤ _; omega, fun _ => by show x.a + 1 + 1 ≤ _; omega⟩
            · rw [textLoop_off _ _ _ _ (by exact hE)]
              exact e_resc h1 h
          · exact e_textLoop n _ _ h1 h
theorem e_text {s : ByteArray} {x : St} (hi : Inv s x) (h : ErrIn s x) : ErrIn s (rtext s x).1 := e_textLoop _ _ _ (inv_must hi 34) (e_must hi h 34)
def EF (s : ByteArray) (f : St → St × V) : Prop := ∀ y, Inv s y → ErrIn s y → ErrIn s (f y).1
theorem e_listLoop {s : ByteArray} {f : St → St × V} (hg : GdF s f) (hf : EF s f) : ∀ (n : Nat) (x : St) (l : List V), Inv s x → ErrIn s x → ErrIn s (rlistLoop s f n x l).1
  | 0, x, l, _, h => h
  | n + 1, x, l, hi, h => by
    simp only [rlistLoop]
    split
    · exact h
    · split
      · exact h
      · have i1 := inv_blanks hi true
        have i2 := (hg _ i1).1
        have h2 := hf _ i1 (e_blanks h true)
        split
        · rename_i hr
          exact e_listLoop hg hf n _ _ (gd_step (Gd.refl (inv_blanks i2 true)) hr).1 h2
        · exact h2
theorem e_list {s : ByteArray} {f : St → St × V} (hg : GdF s f) (hf : EF s f) {x : St} (hi : Inv s ⟨x.a + 1, x.e, x.p⟩) (h : ErrIn s x) : ErrIn s (rlist s f x).1 :=
  e_must (gd_listLoop hg _ _ _ (Gd.refl hi)).1 (e_listLoop hg hf _ _ _ hi h) 93
theorem e_member {s : ByteArray} {f : St → St × V} (hg : GdF s f) (hf : EF s f) {x : St} (m : List ByteArray) (hi : Inv s x) (h : ErrIn s x) : ErrIn s (rmember s f m x).1 := by
  simp only [rmember]
  have i1 := inv_blanks hi false
  have i2 := inv_name i1
  have h2 := e_name i1 (e_blanks h false)
  have h3 : ErrIn s (if has m (rname s (rblanks s x false)).2 = true then rno (rname s (rblanks s x false)).1 6 (rblanks s x false).a else (rname s (rblanks s x false)).1) :=
    e_ite (e_no h2 (by decide) (fun e => i1.2 (back (stk_name s _) e))) h2
  have i3 : Inv s (if has m (rname s (rblanks s x false)).2 = true then rno (rname s (rblanks s x false)).1 6 (rblanks s x false).a else (rname s (rblanks s x false)).1) :=
    (gd_ite (gd_no (Gd.refl i2) (by decide)) (Gd.refl i2) : Gd s (rname s (rblanks s x false)).1 _).1
  exact hf _ (inv_blanks (inv_must (inv_blanks i3 false) 61) false) (e_must (inv_blanks i3 false) h3 61)
theorem e_groupLoop {s : ByteArray} {f : St → St × V} (hg : GdF s f) (hf : EF s f) : ∀ (n : Nat) (x : St) (l : List V) (m : List ByteArray), Inv s x → ErrIn s x → ErrIn s (rgroupLoop s f n x l m).1
  | 0, x, l, m, _, h => h
  | n + 1, x, l, m, hi, h => by
    simp only [rgroupLoop]
    split
    · exact h
    · have i1 := (gd_member hg m (Gd.refl hi)).1
      have h1 := e_member hg hf m hi h
      split
      · rename_i hr
        exact e_groupLoop hg hf n _ _ _ (gd_step (Gd.refl i1) hr).1 h1
      · exact h1
theorem e_group {s : ByteArray} {f : St → St × V} (hg : GdF s f) (hf : EF s f) {x : St} (hi : Inv s ⟨x.a + 1, x.e, x.p⟩) (h : ErrIn s x) : ErrIn s (rgroup s f x).1 := by
  simp only [rgroup]
  have i1 := inv_blanks hi false
  split
  · exact h
  · exact e_must (gd_groupLoop hg _ _ _ _ (Gd.refl i1)).1 (e_groupLoop hg hf _ _ _ _ i1 h) 125
theorem e_val {s : ByteArray} : ∀ (d nest : Nat), EF s (rval s d nest)
  | 0, nest, y, _, h => h
  | d + 1, nest, y, hi, h => by
    simp only [rval]
    split
    · exact e_no h (by decide) hi.2
    · rename_i hc
      have h1 : Inv s ⟨y.a + 1, y.e, y.p⟩ := ⟨by show y.a + 1 ≤ _; omega, fun _ => by show y.a + 1 ≤ _; omega⟩
      split
      · exact e_no h (by decide) hi.2
      · split
        · exact e_text hi h
        · split
          · exact e_list (gd_val d (nest + 1)) (e_val d (nest + 1)) h1 h
          · split
            · exact e_group (gd_val d (nest + 1)) (e_val d (nest + 1)) h1 h
            · exact e_word hi h
theorem e_item {s : ByteArray} {x : St} (items : List It) (hi : Inv s x) (h : ErrIn s x) (hx : x.e = 0) : ErrIn s (ritem s items x).1 := by
  unfold ritem
  split
  · rename_i hr
    have i0 := (gd_step (Gd.refl hi) hr).1
    have i1 := inv_blanks i0 false
    have i2 := (gd_path (Gd.refl i1)).1
    have h2 := e_path i1 (show ErrIn s (rblanks s ⟨x.a + 1, x.e, x.p⟩ false) from h)
    have h3 := e_must (inv_blanks i2 false) (e_blanks h2 false) 93
    exact e_ite (e_no h3 (by decide) (fun _ => hi.2 hx)) h3
  · have i2 := (gd_path (Gd.refl hi)).1
    have h2 := e_path hi h
    have i3 := inv_blanks (inv_must (inv_blanks i2 false) 61) false
    have h3 := e_val 7 0 _ i3 (e_must (inv_blanks i2 false) (e_blanks h2 false) 61)
    exact e_ite (e_no h3 (by decide) (fun _ => hi.2 hx)) h3
theorem e_line {s : ByteArray} {x : St} (items : List It) (hi : Inv s x) (h : ErrIn s x) (hx : x.e = 0) : ErrIn s (rline s items x).1 := by
  have i1 := inv_blanks hi false
  have h1 := e_item (x := rblanks s x false) items i1 h hx
  have hr : ErrIn s (if ris s (rblanks s x false) 35 = true then ((rblanks s x false, ⟨35, [], [], V0, ⟨#[]⟩⟩) : St × It) else (rblanks s (ritem s items (rblanks s x false)).1 false, (ritem s items (rblanks s x false)).2)).1 := e_itep h h1
  unfold rline
  dsimp only
  exact e_itep h (e_itep hr hr)
theorem bytes_first (s : ByteArray) : ∀ n, n ≤ s.size → (rbytes s n ⟨0, 0, 0⟩ = ⟨0, 0, 0⟩ ∧ ∀ i, i < n → okByte (bt s i) = true) ∨ (∃ i, i < n ∧ okByte (bt s i) = false ∧ (∀ j, j < i → okByte (bt s j) = true) ∧ rbytes s n ⟨0, 0, 0⟩ = ⟨0, 2, i⟩)
  | 0, _ => .inl ⟨rfl, fun i h => by omega⟩
  | n + 1, hn => by
    simp only [rbytes]
    rcases bytes_first s n (by omega) with ⟨h1, h2⟩ | ⟨i, h1, h2, h3, h4⟩
    · cases hb : okByte (bt s n)
      · refine .inr ⟨n, by omega, hb, h2, ?_⟩
        rw [if_neg (by simp), h1]
        rfl
      · refine .inl ⟨by rw [if_pos rfl]; exact h1, fun i hi => ?_⟩
        by_cases e : i = n
        · rw [e]; exact hb
        · exact h2 i (by omega)
    · refine .inr ⟨i, by omega, h2, h3, ?_⟩
      split
      · exact h4
      · rw [h4]; rfl
end Go.Proofs.YtdebjhdafnpfkabGreatDoor
