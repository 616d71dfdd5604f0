import Derived.Test.YtmofaleglnihaaaGreatDoorPPure2
import Derived.Test.YtmofaleglnihaaaGreatDoorGB
import Derived.Test.YtmofaleglnihaaaGreatDoorPrC3
import Derived.Test.YtmofaleglnihaaaGreatDoorRefQ
import Derived.Deep.RegionWith
import Derived.Test.YtmofaleglnihaaaGreatDoorPrC4
import Derived.LaidEql
import Derived.Stop.Asserts
import Derived.RowKitTokens
import Derived.Defers
import Derived.Recover
import Derived.Test.YtmofaleglnihaaaGreatDoorRefT
namespace Go.Proofs.YtmofaleglnihaaaGreatDoor
set_option linter.unusedVariables false
set_option linter.unusedSimpArgs false

/-- What is wrong is of a kind with a place, and the place lies in the text. -/
def ErrIn (s : ByteArray) (y : St) : Prop := y.e ≠ 0 → y.e ≠ 1 ∧ y.p ≤ s.size
theorem e_no {s : ByteArray} {y : St} {k q : Nat} (h : ErrIn s y) (h1 : k ≠ 1) (hq : y.e = 0 → q ≤ s.size) : ErrIn s (rno y k q) := by
  by_cases he : y.e = 0
  · rw [rno_on _ _ _ he]
    exact fun _ => ⟨h1, hq he⟩
  · rw [rno_off _ _ _ he]
    exact h
theorem e_ite {s : ByteArray} {a b : St} {c : Prop} [Decidable c] (h1 : ErrIn s a) (h2 : ErrIn s b) : ErrIn s (if c then a else b) := by
  split
  · exact h1
  · exact h2
theorem e_itep {α : Type} {s : ByteArray} {a b : St × α} {c : Prop} [Decidable c] (h1 : ErrIn s a.1) (h2 : ErrIn s b.1) : ErrIn s (if c then a else b).1 := by
  split
  · exact h1
  · exact h2
theorem e_must {s : ByteArray} {y : St} (hi : Inv s y) (h : ErrIn s y) (c : Nat) : ErrIn s (rmust s y c) := by
  unfold rmust
  split
  · exact h
  · exact e_no h (by decide) hi.2
theorem e_blanks {s : ByteArray} {y : St} (h : ErrIn s y) (l : Bool) : ErrIn s (rblanks s y l) := h
theorem inv_blanks {s : ByteArray} {y : St} (h : Inv s y) (l : Bool) : Inv s (rblanks s y l) := (gd_blanks (Gd.refl h) l).1
theorem inv_must {s : ByteArray} {y : St} (h : Inv s y) (c : Nat) : Inv s (rmust s y c) := (gd_must (Gd.refl h) c).1
theorem inv_name {s : ByteArray} {y : St} (h : Inv s y) : Inv s (rname s y).1 := (gd_name (Gd.refl h)).1
theorem e_name {s : ByteArray} {x : St} (hi : Inv s x) (h : ErrIn s x) : ErrIn s (rname s x).1 := by
  simp only [rname, rrun]
  have h1 : ErrIn s ⟨scan letterB s x.a, x.e, x.p⟩ := h
  have hq : ∀ {z : St}, z.e = 0 → Stk x z → x.a ≤ s.size := fun {z} hz hs => hi.2 (Classical.byContradiction fun hx => hx (by have := (hs hx).1; rw [hz] at this; exact this.symm))
  have h2 : ErrIn s (if (s.extract x.a (scan letterB s x.a)).size = 0 then rno ⟨scan letterB s x.a, x.e, x.p⟩ 3 x.a else ⟨scan letterB s x.a, x.e, x.p⟩) := e_ite (e_no h1 (by decide) (fun e => hi.2 e)) h1
  refine e_ite (e_no h2 (by decide) (fun e => hq e ?_)) h2
  exact stk_ite ((stk_at x _).trans (stk_no _ _ _)) (stk_at x _)
theorem back {x y : St} (h : Stk x y) (hy : y.e = 0) : x.e = 0 := Classical.byContradiction fun hx => hx (by have := (h hx).1; rw [hy] at this; exact this.symm)
theorem e_pathLoop {s : ByteArray} : ∀ (n : Nat) (x : St) (l : List ByteArray), Inv s x → ErrIn s x → ErrIn s (rpathLoop s n x l).1
  | 0, x, l, _, h => h
  | n + 1, x, l, hi, h => by
    simp only [rpathLoop]
    split
    · rename_i hr
      exact e_pathLoop n _ _ (gd_step (Gd.refl (inv_name hi)) hr).1 (e_name hi h)
    · exact e_name hi h
theorem e_path {s : ByteArray} {x : St} (hi : Inv s x) (h : ErrIn s x) : ErrIn s (rpath s x).1 := by
  simp only [rpath]
  have h1 := e_pathLoop (s.size + 1 - x.a) x [] hi h
  exact e_ite (e_no h1 (by decide) (fun e => hi.2 (back (stk_pathLoop s _ x []) e))) h1
theorem e_word {s : ByteArray} {x : St} (hi : Inv s x) (h : ErrIn s x) : ErrIn s (rword s x).1 := by
  simp only [rword, rwordAt, rrun]
  have hx : ∀ c : Prop, [Decidable c] → (if c then (⟨x.a + 1, x.e, x.p⟩ : St) else x).e = x.e ∧ (if c then (⟨x.a + 1, x.e, x.p⟩ : St) else x).p = x.p := by
    intro c _
    split <;> exact ⟨rfl, rfl⟩
  generalize hz : (if ris s x 45 = true ∨ ris s x 43 = true then (⟨x.a + 1, x.e, x.p⟩ : St) else x) = z
  have hz2 := hx (ris s x 45 = true ∨ ris s x 43 = true)
  rw [hz] at hz2
  have h1 : ∀ a, ErrIn s ⟨a, z.e, z.p⟩ := fun a => by
    unfold ErrIn
    rw [show (⟨a, z.e, z.p⟩ : St).e = x.e from hz2.1, show (⟨a, z.e, z.p⟩ : St).p = x.p from hz2.2]
    exact h
  have hb : ∀ a, (⟨a, z.e, z.p⟩ : St).e = 0 → x.a ≤ s.size := fun a e => hi.2 (by rw [← hz2.1]; exact e)
  exact e_itep (h1 _) (e_itep (e_no (h1 _) (by decide) (hb _)) (e_ite (e_no (h1 _) (by decide) (hb _)) (h1 _)))
theorem e_resc {s : ByteArray} {x : St} (hi : Inv s x) (h : ErrIn s x) : ErrIn s (rescSt s x) := by
  unfold rescSt
  exact e_ite h (e_no h (by decide) hi.2)
theorem e_textLoop {s : ByteArray} : ∀ (n : Nat) (x : St) (t : ByteArray), Inv s x → ErrIn s x → ErrIn s (rtextLoop s n x t).1
  | 0, x, t, _, h => h
  | n + 1, x, t, hi, h => by
    simp only [rtextLoop]
    split
    · exact h
    · rename_i he
      have e0 : x.e = 0 := Classical.byContradiction he
      split
      · exact e_no h (by decide) hi.2
      · rename_i hl
        have h1 : Inv s ⟨x.a + 1, x.e, x.p⟩ := ⟨by show x.a + 1 ≤ _; omega, fun _ => by show x.a + 1 ≤ _; omega⟩
        split
        · exact h
        · split
          · by_cases hE : (rescSt s ⟨x.a + 1, x.e, x.p⟩).e = 0
            · refine e_textLoop n _ _ ?_ (e_resc h1 h)
              have hr : rescSt s ⟨x.a + 1, x.e, x.p⟩ = ⟨x.a + 1, x.e, x.p⟩ ∧ x.a + 1 < s.size := by
                cases hb : escB (bt s (x.a + 1))
                · rw [rescSt_bad s ⟨x.a + 1, x.e, x.p⟩ e0 hb] at hE
                  cases hE
                · refine ⟨rescSt_ok s ⟨x.a + 1, x.e, x.p⟩ e0 hb, ?_⟩
                  rcases Nat.lt_or_ge (x.a + 1) s.size with q | q
                  · exact q
                  · rw [bt_end s _ q] at hb
                    exact absurd hb (by decide)
              rw [hr.1]
              exact ⟨by show x.a + 1 + 1 ≤ _; omega, fun _ => by show x.a + 1 + 1 ≤ _; omega⟩
            · rw [textLoop_off _ _ _ _ (by exact hE)]
              exact e_resc h1 h
          · exact e_textLoop n _ _ h1 h
theorem e_text {s : ByteArray} {x : St} (hi : Inv s x) (h : ErrIn s x) : ErrIn s (rtext s x).1 := e_textLoop _ _ _ (inv_must hi 34) (e_must hi h 34)
def EF (s : ByteArray) (f : St → St × V) : Prop := ∀ y, Inv s y → ErrIn s y → ErrIn s (f y).1
theorem e_listLoop {s : ByteArray} {f : St → St × V} (hg : GdF s f) (hf : EF s f) : ∀ (n : Nat) (x : St) (l : List V), Inv s x → ErrIn s x → ErrIn s (rlistLoop s f n x l).1
  | 0, x, l, _, h => h
  | n + 1, x, l, hi, h => by
    simp only [rlistLoop]
    split
    · exact h
    · split
      · exact h
      · have i1 := inv_blanks hi true
        have i2 := (hg _ i1).1
        have h2 := hf _ i1 (e_blanks h true)
        split
        · rename_i hr
          exact e_listLoop hg hf n _ _ (gd_step (Gd.refl (inv_blanks i2 true)) hr).1 h2
        · exact h2
theorem e_list {s : ByteArray} {f : St → St × V} (hg : GdF s f) (hf : EF s f) {x : St} (hi : Inv s ⟨x.a + 1, x.e, x.p⟩) (h : ErrIn s x) : ErrIn s (rlist s f x).1 :=
  e_must (gd_listLoop hg _ _ _ (Gd.refl hi)).1 (e_listLoop hg hf _ _ _ hi h) 93
theorem e_member {s : ByteArray} {f : St → St × V} (hg : GdF s f) (hf : EF s f) {x : St} (m : List ByteArray) (hi : Inv s x) (h : ErrIn s x) : ErrIn s (rmember s f m x).1 := by
  simp only [rmember]
  have i1 := inv_blanks hi false
  have i2 := inv_name i1
  have h2 := e_name i1 (e_blanks h false)
  have h3 : ErrIn s (if has m (rname s (rblanks s x false)).2 = true then rno (rname s (rblanks s x false)).1 6 (rblanks s x false).a else (rname s (rblanks s x false)).1) :=
    e_ite (e_no h2 (by decide) (fun e => i1.2 (back (stk_name s _) e))) h2
  have i3 : Inv s (if has m (rname s (rblanks s x false)).2 = true then rno (rname s (rblanks s x false)).1 6 (rblanks s x false).a else (rname s (rblanks s x false)).1) :=
    (gd_ite (gd_no (Gd.refl i2) (by decide)) (Gd.refl i2) : Gd s (rname s (rblanks s x false)).1 _).1
  exact hf _ (inv_blanks (inv_must (inv_blanks i3 false) 61) false) (e_must (inv_blanks i3 false) h3 61)
theorem e_groupLoop {s : ByteArray} {f : St → St × V} (hg : GdF s f) (hf : EF s f) : ∀ (n : Nat) (x : St) (l : List V) (m : List ByteArray), Inv s x → ErrIn s x → ErrIn s (rgroupLoop s f n x l m).1
  | 0, x, l, m, _, h => h
  | n + 1, x, l, m, hi, h => by
    simp only [rgroupLoop]
    split
    · exact h
    · have i1 := (gd_member hg m (Gd.refl hi)).1
      have h1 := e_member hg hf m hi h
      split
      · rename_i hr
        exact e_groupLoop hg hf n _ _ _ (gd_step (Gd.refl i1) hr).1 h1
      · exact h1
theorem e_group {s : ByteArray} {f : St → St × V} (hg : GdF s f) (hf : EF s f) {x : St} (hi : Inv s ⟨x.a + 1, x.e, x.p⟩) (h : ErrIn s x) : ErrIn s (rgroup s f x).1 := by
  simp only [rgroup]
  have i1 := inv_blanks hi false
  split
  · exact h
  · exact e_must (gd_groupLoop hg _ _ _ _ (Gd.refl i1)).1 (e_groupLoop hg hf _ _ _ _ i1 h) 125
theorem e_val {s : ByteArray} : ∀ (d nest : Nat), EF s (rval s d nest)
  | 0, nest, y, _, h => h
  | d + 1, nest, y, hi, h => by
    simp only [rval]
    split
    · exact e_no h (by decide) hi.2
    · rename_i hc
      have h1 : Inv s ⟨y.a + 1, y.e, y.p⟩ := ⟨by show y.a + 1 ≤ _; omega, fun _ => by show y.a + 1 ≤ _; omega⟩
      split
      · exact e_no h (by decide) hi.2
      · split
        · exact e_text hi h
        · split
          · exact e_list (gd_val d (nest + 1)) (e_val d (nest + 1)) h1 h
          · split
            · exact e_group (gd_val d (nest + 1)) (e_val d (nest + 1)) h1 h
            · exact e_word hi h
theorem e_item {s : ByteArray} {x : St} (items : List It) (hi : Inv s x) (h : ErrIn s x) (hx : x.e = 0) : ErrIn s (ritem s items x).1 := by
  unfold ritem
  split
  · rename_i hr
    have i0 := (gd_step (Gd.refl hi) hr).1
    have i1 := inv_blanks i0 false
    have i2 := (gd_path (Gd.refl i1)).1
    have h2 := e_path i1 (show ErrIn s (rblanks s ⟨x.a + 1, x.e, x.p⟩ false) from h)
    have h3 := e_must (inv_blanks i2 false) (e_blanks h2 false) 93
    exact e_ite (e_no h3 (by decide) (fun _ => hi.2 hx)) h3
  · have i2 := (gd_path (Gd.refl hi)).1
    have h2 := e_path hi h
    have i3 := inv_blanks (inv_must (inv_blanks i2 false) 61) false
    have h3 := e_val 7 0 _ i3 (e_must (inv_blanks i2 false) (e_blanks h2 false) 61)
    exact e_ite (e_no h3 (by decide) (fun _ => hi.2 hx)) h3
theorem e_line {s : ByteArray} {x : St} (items : List It) (hi : Inv s x) (h : ErrIn s x) (hx : x.e = 0) : ErrIn s (rline s items x).1 := by
  have i1 := inv_blanks hi false
  have h1 := e_item (x := rblanks s x false) items i1 h hx
  have hr : ErrIn s (if ris s (rblanks s x false) 35 = true then ((rblanks s x false, ⟨35, [], [], V0, ⟨#[]⟩⟩) : St × It) else (rblanks s (ritem s items (rblanks s x false)).1 false, (ritem s items (rblanks s x false)).2)).1 := e_itep h h1
  unfold rline
  dsimp only
  exact e_itep h (e_itep hr hr)
theorem e_readLoop {s : ByteArray} (hgl : ∀ (items : List It) (x : St), Inv s x → Inv s (rline s items x).1) : ∀ (n : Nat) (x : St) (l : List It), Inv s x → ErrIn s x → ErrIn s (rreadLoop s n x l).1
  | 0, x, l, _, h => h
  | n + 1, x, l, hi, h => by
    simp only [rreadLoop]
    split
    · exact h
    · rename_i hc
      have hx : x.e = 0 := Classical.byContradiction fun q => hc (.inl q)
      have i1 := hgl l x hi
      have h1 := e_line l hi h hx
      refine e_readLoop hgl n _ _ ?_ (e_ite (e_must i1 h1 10) h1)
      split
      · exact inv_must i1 10
      · exact i1
theorem bytes_first (s : ByteArray) : ∀ n, n ≤ s.size → (rbytes s n ⟨0, 0, 0⟩ = ⟨0, 0, 0⟩ ∧ ∀ i, i < n → okByte (bt s i) = true) ∨ (∃ i, i < n ∧ okByte (bt s i) = false ∧ (∀ j, j < i → okByte (bt s j) = true) ∧ rbytes s n ⟨0, 0, 0⟩ = ⟨0, 2, i⟩)
  | 0, _ => .inl ⟨rfl, fun i h => by omega⟩
  | n + 1, hn => by
    simp only [rbytes]
    rcases bytes_first s n (by omega) with ⟨h1, h2⟩ | ⟨i, h1, h2, h3, h4⟩
    · cases hb : okByte (bt s n)
      · refine .inr ⟨n, by omega, hb, h2, ?_⟩
        rw [if_neg (by simp), h1]
        rfl
      · refine .inl ⟨by rw [if_pos rfl]; exact h1, fun i hi => ?_⟩
        by_cases e : i = n
        · rw [e]; exact hb
        · exact h2 i (by omega)
    · refine .inr ⟨i, by omega, h2, h3, ?_⟩
      split
      · exact h4
      · rw [h4]; rfl
end Go.Proofs.YtmofaleglnihaaaGreatDoor

namespace Go.Proofs.YtmofaleglnihaaaGreatDoor
open Go.ChangeShapes Go.WideShapes Go.ChangeAt Go.RowKit
set_option linter.unusedVariables false
set_option linter.unusedSimpArgs false

theorem takeRemark_any (q : Nat) (r : ByteArray) (u0 u1 : Value) (w : World) (h0 : w.cell? ⟨q, 0, none⟩ = some u0) (h1 : w.cell? ⟨q, 1, none⟩ = some u1) (hF : ∀ o, w.frozen? ⟨q, o, none⟩ = false) :
    Calls Tryz.prog 176 #[.pointer (some ⟨q, 0, none⟩), .string r] w fun e w' => e = .returned (.tuple #[]) ∧ w' = (w.setCell ⟨q, 0, none⟩ (.string r)).setCell ⟨q, 1, none⟩ (.bool true) := by
  have h1' : (w.setCell ⟨q, 0, none⟩ (.string r)).cell? ⟨q, 1, none⟩ = some u1 := (cell_set_off _ _ _ _ _ (by omega)).trans h1
  have hF' : ∀ o, (w.setCell ⟨q, 0, none⟩ (.string r)).frozen? ⟨q, o, none⟩ = false := fun o => (World.frozen?_setCell _ _ _ _).trans (hF o)
  go_enter Tryz.func176, Tryz.ntmps176
  go_wp2
  go_returns
  exact ⟨rfl, rfl⟩

/-- What is wrong was told, at the face of the reader. -/
def QBad (s : ByteArray) (b : Nat) (w : World) (e : Ending) (w' : World) (y : St) : Prop := y.e ≠ 0 ∧ ∃ q, e = .panicked [{ v := .iface 69 (.pointer (some ⟨q, 0, none⟩)), recovered := false }] ∧ b < q ∧ q < w'.heap.size ∧
  w'.cell? ⟨q, 0, none⟩ = some (.int .i64 y.e) ∧ w'.cell? ⟨q, 1, none⟩ = some (.int .i64 (lineAt s y.p)) ∧ Below b w w'
theorem QBad.of {s : ByteArray} {b : Nat} {w w1 w' : World} {e : Ending} {y z : St} (h : PBad s b w1 e w' y) (hb : b < w1.heap.size) (k : Below b w w1) (he : z.e = y.e) (hp : z.p = y.p) : QBad s b w e w' z := by
  obtain ⟨h1, q, hq⟩ := h
  refine ⟨by rw [he]; exact h1, q, hq.e, Nat.lt_of_lt_of_le hb hq.ge, hq.lt, by rw [he]; exact hq.K, by rw [hp]; exact hq.L, k.trans (hq.kb.bel hb)⟩
/-- Behind a line. -/
def lineZ (s : ByteArray) (items : List It) (x : St) : St := if (rline s items x).1.e = 0 ∧ (rline s items x).1.a < s.size then rmust s (rline s items x).1 10 else (rline s items x).1

theorem meth_hdr (q : Nat) (w : World) : (Go.method 359 146 (.pointer (some ⟨q, 0, none⟩)) "TakeRemark").run Tryz.prog w = .ok (176, .pointer (some ⟨q, 0, none⟩)) w := by kernel_rfl
theorem meth_pair (q : Nat) (w : World) : (Go.method 359 103 (.pointer (some ⟨q, 0, none⟩)) "TakeRemark").run Tryz.prog w = .ok (176, .pointer (some ⟨q, 0, none⟩)) w := by kernel_rfl
theorem meth_bare (q : Nat) (w : World) : (Go.method 359 149 (.pointer (some ⟨q, 0, none⟩)) "TakeRemark").run Tryz.prog w = .ok (176, .pointer (some ⟨q, 0, none⟩)) w := by kernel_rfl
theorem ahead_hdr (q : Nat) (w : World) : (nilAhead 359 146 (.pointer (some ⟨q, 0, none⟩)) "TakeRemark").run Tryz.prog w = .ok (some false) w := by kernel_rfl
theorem ahead_pair (q : Nat) (w : World) : (nilAhead 359 103 (.pointer (some ⟨q, 0, none⟩)) "TakeRemark").run Tryz.prog w = .ok (some false) w := by kernel_rfl
theorem ahead_bare (q : Nat) (w : World) : (nilAhead 359 149 (.pointer (some ⟨q, 0, none⟩)) "TakeRemark").run Tryz.prog w = .ok (some false) w := by kernel_rfl
/-- As a line goes on behind its entry. -/
def Mid (s : ByteArray) (items : List It) (x : St) (y : St) (t : It) : Prop :=
  (rline s items x = rnote s (y, t) ∧ (bt s y.a = 35 → ∀ r : ByteArray, r.size ≠ 0 → ItOk ⟨t.k, t.path, t.full, t.v, r⟩) ∧ (bt s y.a ≠ 35 → ItOk t)) ∨
  (y.a < s.size ∧ bt s y.a ≠ 35 ∧ bt s y.a ≠ 10 ∧ (lineZ s items x).e = 3 ∧ (lineZ s items x).p = y.a)
theorem mid_item {s : ByteArray} {b : Nat} {w w' : World} {items : List It} {x : St} {v : Value} (he : x.e = 0) (hx : bt s (rblanks s x false).a = 91 ∨ letterB (bt s (rblanks s x false).a) = true)
    (h : EntOk s b w w' (ritem s items (rblanks s x false)).1 items (ritem s items (rblanks s x false)).2 v) :
    Mid s items x (rblanks s (ritem s items (rblanks s x false)).1 false) (ritem s items (rblanks s x false)).2 := by
  have hk : (ritem s items (rblanks s x false)).2.k = 91 ∨ (ritem s items (rblanks s x false)).2.k = 61 := by
    unfold ritem
    split
    · exact .inl rfl
    · exact .inr rfl
  have hlt : (rblanks s x false).a < s.size := by
    rcases Nat.lt_or_ge (rblanks s x false).a s.size with q | q
    · exact q
    · rw [bt_end s _ q] at hx
      rcases hx with e | e
      · omega
      · exact absurd e (by decide)
  have h10 : bt s (rblanks s x false).a ≠ 10 := by
    intro e
    rw [e] at hx
    exact absurd hx (by decide)
  have h35 : bt s (rblanks s x false).a ≠ 35 := by
    intro e
    rw [e] at hx
    exact absurd hx (by decide)
  refine .inl ⟨?_, fun _ r hr => ⟨h.h, h.p, ?_⟩, fun _ => ⟨h.h, h.p, ?_⟩⟩
  · rw [rline_eq, if_neg (by rintro (q | q); omega; exact h10 q)]
    unfold rbody
    rw [ris_pk s (rblanks s x false) 35 he (by decide), if_neg (by simpa using h35)]
  · rcases hk with q | q
    · exact .inl q
    · exact .inr (.inl q)
  · rcases hk with q | q
    · exact .inl q
    · exact .inr (.inl q)
theorem rname_none {s : ByteArray} {x : St} (he : x.e = 0) (ha : x.a ≤ s.size) (h : letterB (bt s x.a) = false) : (rname s x).1 = ⟨x.a, 3, x.a⟩ := by
  have e : scan letterB s x.a = x.a := scan_stop _ _ _ (fun _ => h)
  rw [rname_eq s x he ha, if_pos e]
theorem rpath_none {s : ByteArray} {x : St} (he : x.e = 0) (ha : x.a ≤ s.size) (h : letterB (bt s x.a) = false) : (rpath s x).1 = ⟨x.a, 3, x.a⟩ := by
  obtain ⟨n, hn⟩ : ∃ n, s.size + 1 - x.a = n + 1 := ⟨s.size - x.a, by omega⟩
  have e := rname_none he ha h
  have e0 : rpathLoop s (s.size + 1 - x.a) x [] = pathRest s n (rname s x).1 [(rname s x).2] := by rw [hn, rpathLoop_succ]; rfl
  rw [rpath_bad e0 (by rw [e]; simp), e]
theorem mid_bare {s : ByteArray} {items : List It} {x : St} (he : x.e = 0) (ha : x.a ≤ s.size) (hx : ¬ (bt s (rblanks s x false).a = 91 ∨ letterB (bt s (rblanks s x false).a) = true)) :
    ∃ k, (k = 32 ∨ k = 35) ∧ Mid s items x (rblanks s (rblanks s x false) false) (bareIt k) := by
  rw [rblanks_idem]
  have h1 : (rblanks s x false).a ≤ s.size := scan_le _ _ _ ha
  have he1 : (rblanks s x false).e = 0 := he
  have hz : (rline s items x).1.e = 3 → (rline s items x).1.p = (rblanks s x false).a → (lineZ s items x).e = 3 ∧ (lineZ s items x).p = (rblanks s x false).a := by
    intro q1 q2
    unfold lineZ
    rw [if_neg (by rintro ⟨q, _⟩; rw [q1] at q; cases q)]
    exact ⟨q1, q2⟩
  by_cases hb : s.size ≤ (rblanks s x false).a ∨ bt s (rblanks s x false).a = 10
  · have hn : bt s (rblanks s x false).a ≠ 35 := by
      rcases hb with q | q
      · rw [bt_end s _ q]; decide
      · rw [q]; decide
    refine ⟨32, .inl rfl, .inl ⟨?_, fun q => absurd q hn, fun _ => ⟨fun q => absurd (show (32 : Nat) = 91 from q) (by decide), fun q => absurd (show (32 : Nat) = 61 from q) (by decide), .inr (.inr (.inl ⟨rfl, rfl⟩))⟩⟩⟩
    rw [rline_eq, if_pos hb]
    unfold rnote
    simp only
    rw [ris_pk s (rblanks s x false) 35 he (by decide), if_neg (by simpa using hn)]
    rfl
  · by_cases h35 : bt s (rblanks s x false).a = 35
    · refine ⟨35, .inr rfl, .inl ⟨?_, fun _ r hr => ⟨fun q => absurd (show (35 : Nat) = 91 from q) (by decide), fun q => absurd (show (35 : Nat) = 61 from q) (by decide), .inr (.inr (.inr ⟨rfl, hr⟩))⟩, fun q => absurd h35 q⟩⟩
      rw [rline_eq, if_neg hb]
      unfold rbody
      rw [ris_pk s (rblanks s x false) 35 he (by decide), if_pos (by simpa using h35)]
      rfl
    · have hl : letterB (bt s (rblanks s x false).a) = false := by
        cases q : letterB (bt s (rblanks s x false).a)
        · rfl
        · exact absurd (.inr q) hx
      have h91 : bt s (rblanks s x false).a ≠ 91 := fun q => hx (.inl q)
      have hp := rpath_none (s := s) (x := rblanks s x false) he1 h1 hl
      have hb3 : (rpath s (rblanks s x false)).1.e ≠ 0 := by rw [hp]; simp
      have hsk := stk_val s 7 0 (rblanks s (rblanks s (rpath s (rblanks s x false)).1 false) false) hb3
      have e1 : rmust s (rblanks s (rpath s (rblanks s x false)).1 false) 61 = rblanks s (rpath s (rblanks s x false)).1 false := rmust_off _ _ _ hb3
      have hb6 : (rval s 7 0 (rblanks s (rblanks s (rpath s (rblanks s x false)).1 false) false)).1.e ≠ 0 := by rw [hsk.1]; exact hb3
      have F : (ritem s items (rblanks s x false)).1 = (rval s 7 0 (rblanks s (rblanks s (rpath s (rblanks s x false)).1 false) false)).1 := by
        rw [ritem_pair s items _ he1 h91, e1, if_neg (fun q => hb6 q.1)]
      have FE : (ritem s items (rblanks s x false)).1.e = 3 ∧ (ritem s items (rblanks s x false)).1.p = (rblanks s x false).a := by
        rw [F]
        refine ⟨hsk.1.trans ?_, hsk.2.trans ?_⟩
        · show (rpath s (rblanks s x false)).1.e = 3
          rw [hp]
        · show (rpath s (rblanks s x false)).1.p = _
          rw [hp]
      have L : rline s items x = (rblanks s (ritem s items (rblanks s x false)).1 false, (ritem s items (rblanks s x false)).2) := by
        rw [rline_eq, if_neg hb]
        unfold rbody
        rw [ris_pk s (rblanks s x false) 35 he (by decide), if_neg (by simpa using h35)]
        unfold rnote
        rw [ris_off s _ 35 (by show (ritem s items (rblanks s x false)).1.e ≠ 0; rw [FE.1]; simp), if_neg (by simp)]
      have hq := hz (by rw [L]; exact FE.1) (by rw [L]; exact FE.2)
      exact ⟨32, .inl rfl, .inr ⟨by omega, h35, fun q => hb (.inr q), hq.1, hq.2⟩⟩
theorem line_bad {s : ByteArray} {items : List It} {x : St} (he : x.e = 0) (hx : bt s (rblanks s x false).a = 91 ∨ letterB (bt s (rblanks s x false).a) = true) (h : (ritem s items (rblanks s x false)).1.e ≠ 0) :
    (lineZ s items x).e = (ritem s items (rblanks s x false)).1.e ∧ (lineZ s items x).p = (ritem s items (rblanks s x false)).1.p := by
  have hlt : (rblanks s x false).a < s.size := by
    rcases Nat.lt_or_ge (rblanks s x false).a s.size with q | q
    · exact q
    · rw [bt_end s _ q] at hx
      rcases hx with e | e
      · omega
      · exact absurd e (by decide)
  have h10 : bt s (rblanks s x false).a ≠ 10 := by
    intro e
    rw [e] at hx
    exact absurd hx (by decide)
  have h35 : bt s (rblanks s x false).a ≠ 35 := by
    intro e
    rw [e] at hx
    exact absurd hx (by decide)
  have L : rline s items x = (rblanks s (ritem s items (rblanks s x false)).1 false, (ritem s items (rblanks s x false)).2) := by
    rw [rline_eq, if_neg (by rintro (q | q); omega; exact h10 q)]
    unfold rbody
    rw [ris_pk s (rblanks s x false) 35 he (by decide), if_neg (by simpa using h35)]
    unfold rnote
    rw [ris_off s _ 35 (by exact h), if_neg (by simp)]
  unfold lineZ
  rw [if_neg (by rintro ⟨q, _⟩; rw [L] at q; exact h q), L]
  exact ⟨rfl, rfl⟩
end Go.Proofs.YtmofaleglnihaaaGreatDoor

namespace Go.Proofs.YtmofaleglnihaaaGreatDoor
open Go.ChangeShapes Go.WideShapes Go.ChangeAt Go.RowKit
set_option linter.unusedVariables false
set_option linter.unusedSimpArgs false

theorem info_entry : (Tryz.prog.info? 132).map (fun i => (i.zero, i.size, i.bytes)) = some (some .nilIface, 1, 16) := by kernel_rfl
theorem rmk_ext (s : ByteArray) (a e : Nat) (h : a < e) (he : e ≤ s.size) : rmk (s.extract a e) = s.extract (a + 1) e := by
  apply bytes_ext
  unfold rmk
  rw [Lib.extract_data, Lib.extract_data, Lib.extract_data, size_ext s a e he, List.drop_take, List.drop_drop, List.take_take]
  congr 1
  omega
theorem rnote_yes {s : ByteArray} {y : St} {t : It} (he : y.e = 0) (h : bt s y.a = 35) : rnote s (y, t) = (⟨scan inLine s y.a, y.e, y.p⟩, ⟨t.k, t.path, t.full, t.v, s.extract y.a (scan inLine s y.a)⟩) := by
  unfold rnote
  simp only
  rw [ris_pk s y 35 he (by decide), if_pos (by simpa using h)]
theorem rnote_no {s : ByteArray} {y : St} {t : It} (he : y.e = 0) (h : bt s y.a ≠ 35) : rnote s (y, t) = (y, t) := by
  unfold rnote
  simp only
  rw [ris_pk s y 35 he (by decide), if_neg (by simpa using h)]
/-- The end of a line. -/
def endZ (s : ByteArray) (y : St) : St := if y.a < s.size then rmust s y 10 else y
theorem lineZ_eq {s : ByteArray} {items : List It} {x y : St} {t : It} (h : rline s items x = (y, t)) (he : y.e = 0) : lineZ s items x = endZ s y := by
  unfold lineZ endZ
  rw [h]
  simp only [he, true_and]
/-- What a line comes to. -/
def LineP (b : Nat) (s : ByteArray) (items : List It) (x : St) (w : World) (e : Ending) (w' : World) : Prop :=
  (e = .returned (.tuple #[]) ∧ (lineZ s items x).e = 0 ∧ PS w' b s (lineZ s items x).a (items ++ [(rline s items x).2]) ∧ Below b w w') ∨ QBad s b w e w' (lineZ s items x)
/-- The entry stands among the others. -/
theorem ps_more {w w' : World} {b nb : Nat} {hv pv ev ev' : Value} {es : List Value} {items : List It} {s : ByteArray} {a : Nat} {v : Value} {t : It} {S : Nat → Prop} (hpt : PT w b nb (jn (rtable (items ++ [t]))) hv pv ev (hdrs (items ++ [t])) (prs (items ++ [t])) es items)
    (hok : ItsOk items) (ht : ItOk t) (hlen : items.length < 4000) (hpc : PC w b s a) (hS : Away w.heap.size b hv pv ev S) (hE : PEnt S w v t) (ha : Ap b 6 ev w w' ev') (ho : w'.ownsRow (b + 1) 132 1 ev' (es ++ [v]).length (es ++ [v])) :
    PS w' b s a (items ++ [t]) :=
  ⟨ha.pc hpc (by decide), hok.snoc ht, by simp; omega, w'.heap.size, hv, pv, ev', es ++ [v], hpt.entry v t ha ho hS hE⟩

set_option maxRecDepth 100000 in
set_option maxHeartbeats 8000000 in
theorem readLine_any (b : Nat) (s : ByteArray) (items : List It) (x : St) (w : World) (m : Int) (hs : s.size ≤ 4000) (he : x.e = 0) (ha : x.a ≤ s.size) (hlen : items.length < 4000) (hG : 1 < b)
    (hm : w.cell? ⟨1, 0, none⟩ = some (.int .i64 m)) (h : PS w b s x.a items) :
    Calls Tryz.prog 34 #[.pointer (some ⟨b, 0, none⟩)] w fun e w' => LineP b s items x w e w' := by
  obtain ⟨i0, hi, hz0, hz1, hz2⟩ := info_parts info_entry
  have hmf : ∀ (fn : Fn) (first cap : Array Value) (w : World), (Instr.makeFunc fn first cap).run Tryz.prog w = .ok (.func fn first cap) w := fun _ _ _ _ => rfl
  have h' : Hid (PS w b s x.a items) := h
  have HE : Hid (x.e = 0) := he
  have Hm : Hid _ := hm
  have hlt := h.pc.lt
  have HOK : Hid (ItsOk items) := h.ok
  clear h he hm
  have MB : Hid (¬ (bt s (rblanks s x false).a = 91 ∨ letterB (bt s (rblanks s x false).a) = true) → ∃ k, (k = 32 ∨ k = 35) ∧ Mid s items x (rblanks s (rblanks s x false) false) (bareIt k)) := mid_bare HE.out ha
  have LB : Hid (bt s (rblanks s x false).a = 91 ∨ letterB (bt s (rblanks s x false).a) = true → (ritem s items (rblanks s x false)).1.e ≠ 0 → (lineZ s items x).e = (ritem s items (rblanks s x false)).1.e ∧ (lineZ s items x).p = (ritem s items (rblanks s x false)).1.p) := fun a b => line_bad HE.out a b
  go_enter Tryz.func34, Tryz.ntmps34
  go_wp2_with fail
  refine (pblanks_any b s x.a _ hs ha h'.out.pc).mono ?_
  rintro e w1 ⟨rfl, hp1, hk1⟩
  have HS1 : Hid (PS w1 b s (rblanks s x false).a items) := ⟨hp1, h'.out.ok, h'.out.len, h'.out.pt.elim fun nb ⟨hv, pv, ev, es, hpt⟩ => ⟨nb, hv, pv, ev, es, hpt.kc hk1⟩⟩
  have HB1 : Hid (Below b w w1) := hk1.kb.bel hlt
  have Hm1 : Hid (w1.cell? ⟨1, 0, none⟩ = some (.int .i64 m)) := cell_kc Hm.out hG hk1
  have hx1 : (rblanks s x false).a ≤ s.size := scan_le _ _ _ ha
  have HE1 : Hid ((rblanks s x false).e = 0) := HE.out
  have hlt1 := hp1.lt
  clear hp1 hk1 h' Hm
  go_wp2_with fail
  refine (readEntry_any b s items (rblanks s x false) _ m hs HE1.out hx1 hG Hm1.out HS1.out).mono ?_
  intro e w2 hE
  have hU : (∃ (t : It) (tt q : Nat) (y0 : St), e = .returned (.iface tt (ptr q)) ∧ EntOk s b w1 w2 y0 items t (.iface tt (ptr q)) ∧ y0.a ≤ s.size ∧ Mid s items x (rblanks s y0 false) t) ∨
      ((lineZ s items x).e = (ritem s items (rblanks s x false)).1.e ∧ (lineZ s items x).p = (ritem s items (rblanks s x false)).1.p ∧ PBad s b w1 e w2 (ritem s items (rblanks s x false)).1) := by
    rcases hE with ⟨hx, ⟨tt, q, e1, hok⟩ | hbad⟩ | ⟨hx, tt, q, e1, hok⟩
    · exact .inl ⟨_, tt, q, _, e1, hok, (gd_item items (x := rblanks s x false) ⟨by omega, fun _ => hx1⟩).1.2 hok.e, mid_item HE.out hx hok⟩
    · have := LB.out hx hbad.1
      exact .inr ⟨this.1, this.2, hbad⟩
    · obtain ⟨k, hk, hmid⟩ := MB.out hx
      exact .inl ⟨_, tt, q, _, e1, hok k hk, hx1, hmid⟩
  clear hE MB LB
  rcases hU with ⟨t, tt, q, y0, rfl, hent, hy0, hmid⟩ | ⟨z1, z2, hbad⟩
  · have HEnt : Hid (EntOk s b w1 w2 y0 items t (.iface tt (ptr q))) := hent
    have HMid : Hid (Mid s items x (rblanks s y0 false) t) := hmid
    have HZ0 : Hid (y0.e = 0) := hent.e
    have hlt2 := hent.pc.lt
    clear hent hmid
    go_wp2_with fail
    refine (pblanks_any b s y0.a _ hs hy0 HEnt.out.pc).mono ?_
    rintro e w3 ⟨rfl, hp3, hk3⟩
    have HP3 : Hid (PC w3 b s (rblanks s y0 false).a) := hp3
    have HEY : Hid ((rblanks s y0 false).e = 0) := HZ0.out
    have hy3 : (rblanks s y0 false).a ≤ s.size := scan_le _ _ _ hy0
    have HB3 : Hid (Below b w w3) := (HB1.out.trans HEnt.out.bel).trans (hk3.kb.bel hlt2)
    obtain ⟨nb, hv, pv, ev, es, S, hpt2, haw2, hpe2, hnb⟩ := HEnt.out.pt
    have HPT3 : Hid (PT w3 b nb (jn (rtable (items ++ [t]))) hv pv ev (hdrs (items ++ [t])) (prs (items ++ [t])) es items) := hpt2.kc hk3
    have HAW3 : Hid (Away w3.heap.size b hv pv ev S) := fun k hk => ⟨(haw2 k hk).1, Nat.lt_of_lt_of_le (haw2 k hk).2.1 hk3.kb.size, (haw2 k hk).2.2⟩
    have HPE3 : Hid (PEnt S w3 (.iface tt (ptr q)) t) := hpe2.frame (fun k hk => hk3.kb.block k (haw2 k hk).2.1 (by have := (haw2 k hk).1; omega))
    have HNB : Hid (∀ k, S k → nb ≤ k) := hnb
    have htt : tt = 146 ∨ tt = 103 ∨ tt = 149 := by
      obtain ⟨_, _, _, _, _, h6⟩ := hpe2
      rcases h6 with ⟨_, e, _⟩ | ⟨_, e, _⟩ | ⟨_, e⟩
      · simp only [Value.iface.injEq] at e; exact .inl e.1
      · simp only [Value.iface.injEq] at e; exact .inr (.inl e.1)
      · simp only [Value.iface.injEq] at e; exact .inr (.inr e.1)
    clear hpt2 haw2 hpe2 hnb hp3 hk3 HEnt HS1
    generalize rblanks s y0 false = y at *
    by_cases h35 : bt s y.a = 35
    · have t35 : ((bt s y.a : Int) == 35) = true := by simp; omega
      have hl : y.a < s.size := bt_lt' s y.a 35 h35 (by decide)
      have HM2 : Hid (rline s items x = (⟨scan inLine s y.a, y.e, y.p⟩, ⟨t.k, t.path, t.full, t.v, s.extract y.a (scan inLine s y.a)⟩) ∧ ∀ r : ByteArray, r.size ≠ 0 → ItOk ⟨t.k, t.path, t.full, t.v, r⟩) := by
        rcases HMid.out with ⟨a1, a2, _⟩ | ⟨_, a2, _⟩
        · exact ⟨by rw [a1, rnote_yes HEY.out h35], a2 h35⟩
        · exact absurd h35 a2
      have HSC : Hid (scan inLine s y.a = scan inLine s (y.a + 1)) := scan_step _ _ _ hl (by rw [h35]; decide)
      have hsc1 := scan_ge inLine s (y.a + 1)
      have hsc2 := scan_le inLine s (y.a + 1) hl
      clear h35
      go_wp2_with fail
      refine (peek_any b s y.a _ hs hy3 HP3.out).mono ?_
      rintro e w4 ⟨rfl, k4, rfl⟩
      go_wp2_with fail
      refine (step_any b s y.a _ hs hl (HP3.out.drewN k4)).mono ?_
      rintro e w5 ⟨rfl, hp5, hk5⟩
      have HP5 : Hid (PC w5 b s (y.a + 1)) := hp5
      have HK5 : Hid (Kc b w3 w5) := ((Kc.refl _ _).drewN k4).trans hk5
      clear hp5 hk5
      go_wp2_with fail
      have hme : ∀ w, (Go.method 359 tt (.pointer (some ⟨q, 0, none⟩)) "TakeRemark").run Tryz.prog w = .ok (176, .pointer (some ⟨q, 0, none⟩)) w := by
        rcases htt with rfl | rfl | rfl
        · exact meth_hdr q
        · exact meth_pair q
        · exact meth_bare q
      have hah : ∀ w, (nilAhead 359 tt (.pointer (some ⟨q, 0, none⟩)) "TakeRemark").run Tryz.prog w = .ok (some false) w := by
        rcases htt with rfl | rfl | rfl
        · exact ahead_hdr q
        · exact ahead_pair q
        · exact ahead_bare q
      clear htt
      have HR : Hid (rmk (s.extract y.a (scan inLine s y.a)) = s.extract (y.a + 1) (scan inLine s (y.a + 1)) ∧ (s.extract y.a (scan inLine s y.a)).size ≠ 0) := by
        refine ⟨by rw [HSC.out]; exact rmk_ext s y.a _ (by omega) hsc2, ?_⟩
        rw [HSC.out, size_ext s y.a _ hsc2]
        omega
      have HC : Hid (∀ w6, Kc b w5.drew w6 → w6.cell? ⟨q, 0, none⟩ = some (.string (rmk t.rem)) ∧ w6.cell? ⟨q, 1, none⟩ = some (.bool (decide (t.rem.size ≠ 0))) ∧ (∀ o, w6.frozen? ⟨q, o, none⟩ = false)) := by
        intro w6 hk6
        have hkk : Kc b w3 w6 := (HK5.out.drewN 1).trans hk6
        have h6 : PEnt S w6 (.iface tt (ptr q)) t := HPE3.out.frame (fun k hk => hkk.kb.block k (HAW3.out k hk).2.1 (by have := (HAW3.out k hk).1; omega))
        exact (h6.remark trueS (by decide)).2.2
      have HF : Hid (∀ w6, PC w6 b s (scan inLine s (y.a + 1)) → Kc b w5.drew w6 → ∀ W, W = (w6.setCell ⟨q, 0, none⟩ (.string (s.extract (y.a + 1) (scan inLine s (y.a + 1))))).setCell ⟨q, 1, none⟩ (.bool true) →
          PT W b nb (jn (rtable (items ++ [t]))) hv pv ev (hdrs (items ++ [t])) (prs (items ++ [t])) es items ∧ Away W.heap.size b hv pv ev S ∧ PEnt S W (.iface tt (ptr q)) ⟨t.k, t.path, t.full, t.v, s.extract y.a (scan inLine s y.a)⟩ ∧ PC W b s (scan inLine s y.a) ∧ Below b w W) := by
        intro w6 hp6 hk6 W hW
        have hkk : Kc b w3 w6 := (HK5.out.drewN 1).trans hk6
        have hlt3 := HP3.out.lt
        have h6 : PEnt S w6 (.iface tt (ptr q)) t := HPE3.out.frame (fun k hk => hkk.kb.block k (HAW3.out k hk).2.1 (by have := (HAW3.out k hk).1; omega))
        have h7 := h6.remark (s.extract y.a (scan inLine s y.a)) HR.out.2
        rw [HR.out.1] at h7
        have hSq := HAW3.out q h7.1
        have hnq := HNB.out q h7.1
        have hzz : W.heap.size = w6.heap.size := by rw [hW]; simp [World.setCell]
        have hP6 := HPT3.out.kc hkk
        refine ⟨?_, ?_, ?_, ?_, ?_⟩
        · rw [hW]
          exact (hP6.set q 0 _ hSq.1 hnq hSq.2.2.1 hSq.2.2.2.1 hSq.2.2.2.2).set q 1 _ hSq.1 hnq hSq.2.2.1 hSq.2.2.2.1 hSq.2.2.2.2
        · intro k hk
          have := HAW3.out k hk
          exact ⟨this.1, by rw [hzz]; exact Nat.lt_of_lt_of_le this.2.1 hkk.kb.size, this.2.2⟩
        · rw [hW]; exact h7.2.1
        · have hbk : W.heap[b]? = w6.heap[b]? := by
            rw [hW, Below.heap_setCell _ _ _ _ (by simp only; omega), Below.heap_setCell _ _ _ _ (by simp only; omega)]
          rw [HSC.out]
          exact hp6.of_block hbk (by rw [hzz]; exact Nat.le_refl _)
        · rw [hW]
          exact ((HB3.out.trans (hkk.kb.bel hlt3)).setCell (p := ⟨q, 0, none⟩) (by show b ≤ q; omega) _).setCell (p := ⟨q, 1, none⟩) (by show b ≤ q; omega) _
      have HY : Hid (scan inLine s y.a ≤ s.size ∧ (scan inLine s y.a < s.size → bt s (scan inLine s y.a) = 10)) := by
        refine ⟨by rw [HSC.out]; exact hsc2, fun hq => ?_⟩
        have := skip_end inLine s (s.size - y.a) y.a (by omega) hq
        have h2 : ¬ (bt s (scan inLine s y.a) ≠ 10) := by
          intro e
          have h3 : inLine (bt s (scan inLine s y.a)) = true := by simpa [inLine] using e
          have h4 : inLine (bt s (scan inLine s y.a)) = false := this
          rw [h3] at h4
          cases h4
        exact Classical.byContradiction h2
      have HYe : Hid ((⟨scan inLine s y.a, y.e, y.p⟩ : St).e = 0) := HEY.out
      have ZZ : Hid (lineZ s items x = endZ s ⟨scan inLine s y.a, y.e, y.p⟩ ∧ (rline s items x).2 = ⟨t.k, t.path, t.full, t.v, s.extract y.a (scan inLine s y.a)⟩ ∧ ItOk ⟨t.k, t.path, t.full, t.v, s.extract y.a (scan inLine s y.a)⟩) :=
        ⟨lineZ_eq HM2.out.1 HEY.out, by rw [HM2.out.1], HM2.out.2 _ HR.out.2⟩
      go_region_with (first | (go_at_call 48; refine (take_isInLine b s (y.a + 1) _ hs ?_ ?_).mono ?_; (· omega); (· exact HP5.out.drewN 1); rintro e w6 ⟨rfl, hp6, hk6⟩) | (go_at_call 176; refine (takeRemark_any q _ (.string (rmk t.rem)) (.bool (decide (t.rem.size ≠ 0))) _ ?_ ?_ ?_).mono ?_; (· exact (HC.out w6 hk6).1); (· exact (HC.out w6 hk6).2.1); (· exact (HC.out w6 hk6).2.2); rintro e w7 ⟨rfl, rfl⟩))
      all_goals
        have hff := HF.out w6 hp6 hk6 _ rfl
        clear hp6 hk6
        generalize (w6.setCell ⟨q, 0, none⟩ (.string (s.extract (y.a + 1) (scan inLine s (y.a + 1))))).setCell ⟨q, 1, none⟩ (.bool true) = W at *
        obtain ⟨hfp, hfa, hfe, hfc, hfb⟩ := hff
        have HPT : Hid (PT W b nb (jn (rtable (items ++ [t]))) hv pv ev (hdrs (items ++ [t])) (prs (items ++ [t])) es items) := hfp
        have HAW : Hid (Away W.heap.size b hv pv ev S) := hfa
        have HPE : Hid (PEnt S W (.iface tt (ptr q)) ⟨t.k, t.path, t.full, t.v, s.extract y.a (scan inLine s y.a)⟩) := hfe
        have HPC : Hid (PC W b s (scan inLine s y.a)) := hfc
        have HBW : Hid (Below b w W) := hfb
        have ZE : Hid (∀ hd : scan inLine s y.a < s.size, (rmust s ⟨scan inLine s y.a, y.e, y.p⟩ 10).e = 0) := fun hd => by
          rw [rmust_hit s ⟨scan inLine s y.a, y.e, y.p⟩ 10 HYe.out (by decide) (HY.out.2 hd)]
          exact HYe.out
        clear hfp hfa hfe hfc hfb
        have hYle : (⟨scan inLine s y.a, y.e, y.p⟩ : St).a ≤ s.size := HY.out.1
        have Z1 : Hid ((⟨scan inLine s y.a, y.e, y.p⟩ : St).a = s.size → lineZ s items x = ⟨scan inLine s y.a, y.e, y.p⟩ ∧ (rline s items x).2 = ⟨t.k, t.path, t.full, t.v, s.extract y.a (scan inLine s y.a)⟩ ∧ ItOk ⟨t.k, t.path, t.full, t.v, s.extract y.a (scan inLine s y.a)⟩) := fun hq => by
          refine ⟨?_, ZZ.out.2⟩
          rw [ZZ.out.1]; unfold endZ; rw [if_neg (by omega)]
        have Z2 : Hid ((⟨scan inLine s y.a, y.e, y.p⟩ : St).a < s.size → (rmust s ⟨scan inLine s y.a, y.e, y.p⟩ 10).e = 0 → lineZ s items x = rmust s ⟨scan inLine s y.a, y.e, y.p⟩ 10 ∧ (rline s items x).2 = ⟨t.k, t.path, t.full, t.v, s.extract y.a (scan inLine s y.a)⟩ ∧ ItOk ⟨t.k, t.path, t.full, t.v, s.extract y.a (scan inLine s y.a)⟩) := fun hq _ => by
          refine ⟨?_, ZZ.out.2⟩
          rw [ZZ.out.1]; unfold endZ; rw [if_pos hq]
        have Z3 : Hid ((⟨scan inLine s y.a, y.e, y.p⟩ : St).a < s.size → (rmust s ⟨scan inLine s y.a, y.e, y.p⟩ 10).e ≠ 0 → (lineZ s items x).e = (rmust s ⟨scan inLine s y.a, y.e, y.p⟩ 10).e ∧ (lineZ s items x).p = (rmust s ⟨scan inLine s y.a, y.e, y.p⟩ 10).p) := fun hq hn => absurd (ZE.out hq) hn
        have Hsn : Hid (rtable (items ++ [t]) = rtable (items ++ [⟨t.k, t.path, t.full, t.v, s.extract y.a (scan inLine s y.a)⟩]) ∧ hdrs (items ++ [t]) = hdrs (items ++ [⟨t.k, t.path, t.full, t.v, s.extract y.a (scan inLine s y.a)⟩]) ∧ prs (items ++ [t]) = prs (items ++ [⟨t.k, t.path, t.full, t.v, s.extract y.a (scan inLine s y.a)⟩])) := by
          refine ⟨?_, ?_, ?_⟩
          · rw [rtable_snoc, rtable_snoc]
          · rw [hdrs_snoc, hdrs_snoc]
          · rw [prs_snoc, prs_snoc]
        rw [Hsn.out.1, Hsn.out.2.1, Hsn.out.2.2] at HPT
        have HPC' : Hid (PC W b s (⟨scan inLine s y.a, y.e, y.p⟩ : St).a) := HPC.out
        clear HPC ZE HF HC HR HY HM2 ZZ Hsn HSC hsc1 hsc2
        have HYe : Hid (St.e ⟨scan inLine s y.a, y.e, y.p⟩ = 0) := HEY.out
        generalize (⟨t.k, t.path, t.full, t.v, s.extract y.a (scan inLine s y.a)⟩ : It) = tf at *
        generalize (⟨scan inLine s y.a, y.e, y.p⟩ : St) = Y at *
        have hc6 := HPT.out.c6
        have hFW := HPC'.out.F
        have hltW := HPC'.out.lt
        have O6 : Hid (W.ownsRow (b + 1) 132 1 ev es.length es) := HPT.out.o6
        have hesl : es.length < 4000 := by have := HPT.out.len; omega
        obtain ⟨ad6, cap6, hv6⟩ := ownsS_form O6.out
        subst hv6
        have C6 : Hid _ := hc6
        go_wp2_with (at_builtin; refine wpList_append_own_at _ rfl (.tmp 35) (.tmp 37) 83 rfl (b + 1) 132 i0 .nilIface 1 16 Tryz.underlying83 hi hz0 hz1 hz2 rfl (by decide) _ _ _ rfl (O6.out.alloc _) ⟨W.heap.size, 0, none⟩ 1 1 [.iface tt (ptr q)] rfl rfl (cell_one_new _ _ _) (by intro u hu; simp at hu; subst hu; rfl) (by unfold maxLen; omega) (by omega) (by simp; omega) ?_; intro v1 w8 hown8 hgrow8 hnil8 hat8; refine Hid.out ?_)
        have hne : (Value.slice ad6 es.length cap6).ownBlock ≠ some b := fun e => (ownsS_ne O6.out (Nat.lt_succ_self b)) e.symm
        have HA : Hid (Ap b 6 (.slice ad6 es.length cap6) W (w8.setCell ⟨b, 6, none⟩ v1) v1) := ap_mk hltW C6.out hne ((Below.refl _ _).alloc (Nat.le_refl _) _) hgrow8 hat8
        have HO : Hid ((w8.setCell ⟨b, 6, none⟩ v1).ownsRow (b + 1) 132 1 v1 (es ++ [Value.iface tt (ptr q)]).length (es ++ [Value.iface tt (ptr q)])) := by
          unfold Hid
          refine ownsS_frame (w := w8) (by simpa using hown8) (fun k k1 _ _ => Below.heap_setCell _ _ _ _ (by simp only; omega))
        have hbb : w8.heap[b]? = W.heap[b]? := (hgrow8.block b (by simp; omega) (fun e => hne e.symm)).trans (Below.heap_alloc _ _ _ hltW)
        have c6' : w8.cell? ⟨b, 6, none⟩ = some (.slice ad6 es.length cap6) := (World.cell?_of_block (w := W) hbb).trans C6.out
        have hF' : ∀ o, w8.frozen? ⟨b, o, none⟩ = false := fun o => (World.frozen?_of_block (w := W) hbb).trans (hFW o)
        obtain ⟨ad8, cap8, hv8⟩ := ownsS_form hown8
        subst hv8
        have HBZ : Hid (Below b w (w8.setCell ⟨b, 6, none⟩ (.slice ad8 (es.length + 1) cap8))) := HBW.out.trans (HA.out.below hltW (fun k hk => (O6.out.lt k hk).1))
        have HPZ : Hid (PC (w8.setCell ⟨b, 6, none⟩ (.slice ad8 (es.length + 1) cap8)) b s Y.a) := HA.out.pc HPC'.out (by decide)
        have HPS : Hid (ItOk tf → PS (w8.setCell ⟨b, 6, none⟩ (.slice ad8 (es.length + 1) cap8)) b s Y.a (items ++ [tf])) := fun hI => ps_more HPT.out HOK.out hI hlen HPC'.out HAW.out HPE.out HA.out HO.out
        clear hown8 hgrow8 hnil8 hat8 hbb hc6 C6 hFW HA HO
        unfold Hid
        by_cases hd : Y.a = s.size
        · have td : decide (Y.a = s.size) = true := by simpa using hd
          have ZZ := Z1.out hd
          have HZZ : Hid (lineZ s items x = Y ∧ (rline s items x).2 = tf ∧ ItOk tf) := ZZ
          clear ZZ hd
          go_wp2_with fail
          refine (done_any b s Y.a _ hs hYle HPZ.out).mono ?_
          rintro e w9 ⟨rfl, k9, rfl⟩
          have HK9 : Hid (Kc b _ _) := (Kc.refl b (w8.setCell ⟨b, 6, none⟩ (.slice ad8 (es.length + 1) cap8))).drewN k9
          generalize w8.setCell ⟨b, 6, none⟩ (.slice ad8 (es.length + 1) cap8) = w9 at *
          go_wp2_with fail
          go_returns
          refine .inl ⟨rfl, ?_, ?_, HBZ.out.trans (HK9.out.kb.bel HPZ.out.lt)⟩
          · rw [HZZ.out.1]; exact HYe.out
          · rw [HZZ.out.1, HZZ.out.2.1]
            exact (HPS.out HZZ.out.2.2).drewN k9
        · have td : decide (Y.a = s.size) = false := by simpa using hd
          have hYlt : Y.a < s.size := by omega
          clear hd
          go_wp2_with fail
          refine (done_any b s Y.a _ hs hYle HPZ.out).mono ?_
          rintro e w9 ⟨rfl, k9, rfl⟩
          have HK9 : Hid (Kc b (w8.setCell ⟨b, 6, none⟩ (.slice ad8 (es.length + 1) cap8)) ((w8.setCell ⟨b, 6, none⟩ (.slice ad8 (es.length + 1) cap8)).drewN k9)) := (Kc.refl b _).drewN k9
          have HP9 : Hid (PC ((w8.setCell ⟨b, 6, none⟩ (.slice ad8 (es.length + 1) cap8)).drewN k9) b s Y.a) := HPZ.out.drewN k9
          have HPS9 : Hid (ItOk tf → PS ((w8.setCell ⟨b, 6, none⟩ (.slice ad8 (es.length + 1) cap8)).drewN k9) b s Y.a (items ++ [tf])) := fun hI => (HPS.out hI).drewN k9
          have HB9 : Hid (Below b w ((w8.setCell ⟨b, 6, none⟩ (.slice ad8 (es.length + 1) cap8)).drewN k9)) := HBZ.out.trans (HK9.out.kb.bel HPZ.out.lt)
          clear HPZ HPS HBZ HK9 c6' hF'
          generalize (w8.setCell ⟨b, 6, none⟩ (.slice ad8 (es.length + 1) cap8)).drewN k9 = w9 at *
          go_wp2_with fail
          refine (pass_any b s Y 10 _ hs HYe.out hYle (by decide) HP9.out).mono ?_
          rintro e w10 (⟨rfl, hok⟩ | ⟨hb1, q1, hq1⟩)
          · have hok' : Hid (POk s b w9 w10 (rmust s Y 10)) := hok
            have HZZ : Hid (lineZ s items x = rmust s Y 10 ∧ (rline s items x).2 = tf ∧ ItOk tf) := Z2.out hYlt hok.e
            clear hok
            go_wp2_with fail
            go_returns
            refine .inl ⟨rfl, ?_, ?_, HB9.out.trans (hok'.out.kc.kb.bel HP9.out.lt)⟩
            · rw [HZZ.out.1]; exact hok'.out.e
            · rw [HZZ.out.1, HZZ.out.2.1]
              have h9 := HPS9.out HZZ.out.2.2
              exact ⟨hok'.out.pc, h9.ok, h9.len, h9.pt.elim fun nb ⟨hv, pv, ev, es, hpt⟩ => ⟨nb, hv, pv, ev, es, hpt.kc hok'.out.kc⟩⟩
          · have he' := hq1.e
            subst he'
            have hzz := Z3.out hYlt hb1
            exact ⟨rfl, .inr (QBad.of ⟨hb1, q1, hq1⟩ HP9.out.lt HB9.out hzz.1 hzz.2)⟩
    · have t35 : ((bt s y.a : Int) == 35) = false := by simp; omega
      have HPT : Hid (PT (w3.drewN 0) b nb (jn (rtable (items ++ [t]))) hv pv ev (hdrs (items ++ [t])) (prs (items ++ [t])) es items) := HPT3.out
      have HM2 : Hid ((rline s items x = (y, t) ∧ ItOk t) ∨ (y.a < s.size ∧ bt s y.a ≠ 10 ∧ (lineZ s items x).e = 3 ∧ (lineZ s items x).p = y.a)) := by
        rcases HMid.out with ⟨a1, _, a3⟩ | ⟨a1, a2, a3, a4, a5⟩
        · exact .inl ⟨by rw [a1, rnote_no HEY.out h35], a3 h35⟩
        · exact .inr ⟨a1, a3, a4, a5⟩
      clear h35 htt HPT
      have Z1 : Hid (y.a = s.size → lineZ s items x = y ∧ (rline s items x).2 = t ∧ ItOk t) := fun hq => by
        rcases HM2.out with ⟨a1, a2⟩ | ⟨a1, _⟩
        · refine ⟨?_, by rw [a1], a2⟩
          rw [lineZ_eq a1 HEY.out]; unfold endZ; rw [if_neg (by omega)]
        · omega
      have Z2 : Hid (y.a < s.size → (rmust s y 10).e = 0 → lineZ s items x = rmust s y 10 ∧ (rline s items x).2 = t ∧ ItOk t) := fun hq h0 => by
        rcases HM2.out with ⟨a1, a2⟩ | ⟨_, a2, _⟩
        · refine ⟨?_, by rw [a1], a2⟩
          rw [lineZ_eq a1 HEY.out]; unfold endZ; rw [if_pos hq]
        · rw [rmust_miss s y 10 HEY.out (by decide) a2] at h0
          cases h0
      have Z3 : Hid (y.a < s.size → (rmust s y 10).e ≠ 0 → (lineZ s items x).e = (rmust s y 10).e ∧ (lineZ s items x).p = (rmust s y 10).p) := fun hq h0 => by
        rcases HM2.out with ⟨a1, a2⟩ | ⟨_, a2, a3, a4⟩
        · rw [lineZ_eq a1 HEY.out]; unfold endZ; rw [if_pos hq]; exact ⟨rfl, rfl⟩
        · rw [rmust_miss s y 10 HEY.out (by decide) a2]
          exact ⟨a3, a4⟩
      have HYe : Hid (y.e = 0) := HEY.out
      have hYle : y.a ≤ s.size := hy3
      go_wp2_with fail
      refine (peek_any b s y.a _ hs hy3 HP3.out).mono ?_
      rintro e w4 ⟨rfl, k4, rfl⟩
      have HK4 : Hid (Kc b w3 (w3.drewN k4)) := (Kc.refl _ _).drewN k4
      have HPT : Hid (PT (w3.drewN k4) b nb (jn (rtable (items ++ [t]))) hv pv ev (hdrs (items ++ [t])) (prs (items ++ [t])) es items) := HPT3.out.kc HK4.out
      have HAW : Hid (Away (w3.drewN k4).heap.size b hv pv ev S) := HAW3.out
      have HPE : Hid (PEnt S (w3.drewN k4) (.iface tt (ptr q)) t) := HPE3.out.frame (fun k hk => HK4.out.kb.block k (HAW3.out k hk).2.1 (by have := (HAW3.out k hk).1; omega))
      have HPC' : Hid (PC (w3.drewN k4) b s y.a) := HP3.out.drewN k4
      have HBW : Hid (Below b w (w3.drewN k4)) := HB3.out.trans (HK4.out.kb.bel HP3.out.lt)
      clear HM2 HMid HK4 HPT3 HAW3 HPE3 HB3 HP3
      generalize w3.drewN k4 = W at *
      generalize hYY : y = Y at *
      generalize t = tf at *
      clear hYY
      have hc6 := HPT.out.c6
      have hFW := HPC'.out.F
      have hltW := HPC'.out.lt
      have O6 : Hid (W.ownsRow (b + 1) 132 1 ev es.length es) := HPT.out.o6
      have hesl : es.length < 4000 := by have := HPT.out.len; omega
      obtain ⟨ad6, cap6, hv6⟩ := ownsS_form O6.out
      subst hv6
      have C6 : Hid _ := hc6
      go_wp2_with (at_builtin; refine wpList_append_own_at _ rfl (.tmp 35) (.tmp 37) 83 rfl (b + 1) 132 i0 .nilIface 1 16 Tryz.underlying83 hi hz0 hz1 hz2 rfl (by decide) _ _ _ rfl (O6.out.alloc _) ⟨W.heap.size, 0, none⟩ 1 1 [.iface tt (ptr q)] rfl rfl (cell_one_new _ _ _) (by intro u hu; simp at hu; subst hu; rfl) (by unfold maxLen; omega) (by omega) (by simp; omega) ?_; intro v1 w8 hown8 hgrow8 hnil8 hat8; refine Hid.out ?_)
      have hne : (Value.slice ad6 es.length cap6).ownBlock ≠ some b := fun e => (ownsS_ne O6.out (Nat.lt_succ_self b)) e.symm
      have HA : Hid (Ap b 6 (.slice ad6 es.length cap6) W (w8.setCell ⟨b, 6, none⟩ v1) v1) := ap_mk hltW C6.out hne ((Below.refl _ _).alloc (Nat.le_refl _) _) hgrow8 hat8
      have HO : Hid ((w8.setCell ⟨b, 6, none⟩ v1).ownsRow (b + 1) 132 1 v1 (es ++ [Value.iface tt (ptr q)]).length (es ++ [Value.iface tt (ptr q)])) := by
        unfold Hid
        refine ownsS_frame (w := w8) (by simpa using hown8) (fun k k1 _ _ => Below.heap_setCell _ _ _ _ (by simp only; omega))
      have hbb : w8.heap[b]? = W.heap[b]? := (hgrow8.block b (by simp; omega) (fun e => hne e.symm)).trans (Below.heap_alloc _ _ _ hltW)
      have c6' : w8.cell? ⟨b, 6, none⟩ = some (.slice ad6 es.length cap6) := (World.cell?_of_block (w := W) hbb).trans C6.out
      have hF' : ∀ o, w8.frozen? ⟨b, o, none⟩ = false := fun o => (World.frozen?_of_block (w := W) hbb).trans (hFW o)
      obtain ⟨ad8, cap8, hv8⟩ := ownsS_form hown8
      subst hv8
      have HBZ : Hid (Below b w (w8.setCell ⟨b, 6, none⟩ (.slice ad8 (es.length + 1) cap8))) := HBW.out.trans (HA.out.below hltW (fun k hk => (O6.out.lt k hk).1))
      have HPZ : Hid (PC (w8.setCell ⟨b, 6, none⟩ (.slice ad8 (es.length + 1) cap8)) b s Y.a) := HA.out.pc HPC'.out (by decide)
      have HPS : Hid (ItOk tf → PS (w8.setCell ⟨b, 6, none⟩ (.slice ad8 (es.length + 1) cap8)) b s Y.a (items ++ [tf])) := fun hI => ps_more HPT.out HOK.out hI hlen HPC'.out HAW.out HPE.out HA.out HO.out
      clear hown8 hgrow8 hnil8 hat8 hbb hc6 C6 hFW HA HO
      unfold Hid
      by_cases hd : Y.a = s.size
      · have td : decide (Y.a = s.size) = true := by simpa using hd
        have ZZ := Z1.out hd
        have HZZ : Hid (lineZ s items x = Y ∧ (rline s items x).2 = tf ∧ ItOk tf) := ZZ
        clear ZZ hd
        go_wp2_with fail
        refine (done_any b s Y.a _ hs hYle HPZ.out).mono ?_
        rintro e w9 ⟨rfl, k9, rfl⟩
        have HK9 : Hid (Kc b _ _) := (Kc.refl b (w8.setCell ⟨b, 6, none⟩ (.slice ad8 (es.length + 1) cap8))).drewN k9
        generalize w8.setCell ⟨b, 6, none⟩ (.slice ad8 (es.length + 1) cap8) = w9 at *
        go_wp2_with fail
        go_returns
        refine .inl ⟨rfl, ?_, ?_, HBZ.out.trans (HK9.out.kb.bel HPZ.out.lt)⟩
        · rw [HZZ.out.1]; exact HYe.out
        · rw [HZZ.out.1, HZZ.out.2.1]
          exact (HPS.out HZZ.out.2.2).drewN k9
      · have td : decide (Y.a = s.size) = false := by simpa using hd
        have hYlt : Y.a < s.size := by omega
        clear hd
        go_wp2_with fail
        refine (done_any b s Y.a _ hs hYle HPZ.out).mono ?_
        rintro e w9 ⟨rfl, k9, rfl⟩
        have HK9 : Hid (Kc b (w8.setCell ⟨b, 6, none⟩ (.slice ad8 (es.length + 1) cap8)) ((w8.setCell ⟨b, 6, none⟩ (.slice ad8 (es.length + 1) cap8)).drewN k9)) := (Kc.refl b _).drewN k9
        have HP9 : Hid (PC ((w8.setCell ⟨b, 6, none⟩ (.slice ad8 (es.length + 1) cap8)).drewN k9) b s Y.a) := HPZ.out.drewN k9
        have HPS9 : Hid (ItOk tf → PS ((w8.setCell ⟨b, 6, none⟩ (.slice ad8 (es.length + 1) cap8)).drewN k9) b s Y.a (items ++ [tf])) := fun hI => (HPS.out hI).drewN k9
        have HB9 : Hid (Below b w ((w8.setCell ⟨b, 6, none⟩ (.slice ad8 (es.length + 1) cap8)).drewN k9)) := HBZ.out.trans (HK9.out.kb.bel HPZ.out.lt)
        clear HPZ HPS HBZ HK9 c6' hF'
        generalize (w8.setCell ⟨b, 6, none⟩ (.slice ad8 (es.length + 1) cap8)).drewN k9 = w9 at *
        go_wp2_with fail
        refine (pass_any b s Y 10 _ hs HYe.out hYle (by decide) HP9.out).mono ?_
        rintro e w10 (⟨rfl, hok⟩ | ⟨hb1, q1, hq1⟩)
        · have hok' : Hid (POk s b w9 w10 (rmust s Y 10)) := hok
          have HZZ : Hid (lineZ s items x = rmust s Y 10 ∧ (rline s items x).2 = tf ∧ ItOk tf) := Z2.out hYlt hok.e
          clear hok
          go_wp2_with fail
          go_returns
          refine .inl ⟨rfl, ?_, ?_, HB9.out.trans (hok'.out.kc.kb.bel HP9.out.lt)⟩
          · rw [HZZ.out.1]; exact hok'.out.e
          · rw [HZZ.out.1, HZZ.out.2.1]
            have h9 := HPS9.out HZZ.out.2.2
            exact ⟨hok'.out.pc, h9.ok, h9.len, h9.pt.elim fun nb ⟨hv, pv, ev, es, hpt⟩ => ⟨nb, hv, pv, ev, es, hpt.kc hok'.out.kc⟩⟩
        · have he' := hq1.e
          subst he'
          have hzz := Z3.out hYlt hb1
          exact ⟨rfl, .inr (QBad.of ⟨hb1, q1, hq1⟩ HP9.out.lt HB9.out hzz.1 hzz.2)⟩
  · obtain ⟨hb1, q, hq⟩ := hbad
    have he' := hq.e
    subst he'
    exact ⟨rfl, .inr (QBad.of ⟨hb1, q, hq⟩ hlt1 HB1.out z1 z2)⟩
end Go.Proofs.YtmofaleglnihaaaGreatDoor

namespace Go.Proofs.YtmofaleglnihaaaGreatDoor
open Go.ChangeShapes Go.WideShapes Go.ChangeAt Go.RowKit
set_option linter.unusedVariables false
set_option linter.unusedSimpArgs false

theorem newCursor_any (s : ByteArray) (w : World) :
    Calls Tryz.prog 31 #[.string s] w fun e w' => e = .returned (.agg #[.string s, .int .i64 0, .int .i64 1]) ∧ Below w.heap.size w w' := by
  go_enter Tryz.func31, Tryz.ntmps31
  go_wp2
  exact bodyPost_ret (v := .agg #[.string s, .int .i64 0, .int .i64 1]) (by simp [results, Tryz.results31, go_sem]) rfl ⟨rfl, (Below.refl _ _).alloc (Nat.le_refl _) _⟩

/-- A Fault that was thrown. -/
structure Thrown (w : World) (e : Ending) (w' : World) (k l q : Nat) : Prop where
  e : e = .panicked [{ v := .iface 69 (.pointer (some ⟨q, 0, none⟩)), recovered := false }]
  ge : w.heap.size ≤ q
  lt : q < w'.heap.size
  K : w'.cell? ⟨q, 0, none⟩ = some (.int .i64 k)
  L : w'.cell? ⟨q, 1, none⟩ = some (.int .i64 l)
  bel : Below w.heap.size w w'
theorem Thrown.of {b : Nat} {w w1 w' : World} {e : Ending} {k l q : Nat} (h : Pan b w1 e w' k l q) (hb : b < w1.heap.size) (hw : w.heap.size ≤ b) (k1 : Below w.heap.size w w1) : Thrown w e w' k l q :=
  ⟨h.e, Nat.le_trans k1.size h.ge, h.lt, h.K, h.L, k1.trans ((h.kb.bel hb).mono hw)⟩

theorem scan_all (p : Nat → Bool) (s : ByteArray) : ∀ n a, a + n = s.size → (∀ i, a ≤ i → i < s.size → p (bt s i) = true) → skip p s n a = s.size
  | 0, a, h, _ => by show a = _; omega
  | n + 1, a, h, hp => by
    unfold skip
    rw [if_pos ⟨by omega, hp a (Nat.le_refl _) (by omega)⟩]
    exact scan_all p s n (a + 1) (by omega) (fun i h1 h2 => hp i (by omega) h2)
theorem scan_first (p : Nat → Bool) (s : ByteArray) (i : Nat) : ∀ n a, a ≤ i → i < a + n → i < s.size → (∀ j, a ≤ j → j < i → p (bt s j) = true) → p (bt s i) = false → skip p s n a = i
  | 0, a, h1, h2, _, _, _ => by omega
  | n + 1, a, h1, h2, h3, hp, hn => by
    unfold skip
    by_cases e : a = i
    · subst e
      rw [if_neg (by rw [hn]; simp)]
    · rw [if_pos ⟨by omega, hp a (Nat.le_refl _) (by omega)⟩]
      exact scan_first p s i n (a + 1) (by omega) (by omega) h3 (fun j q1 q2 => hp j (by omega) q2) hn

theorem checkBytes_any (s : ByteArray) (w : World) (hs : s.size ≤ 4000) :
    Calls Tryz.prog 30 #[.string s] w fun e w' => (scan okByte s 0 = s.size ∧ e = .returned (.tuple #[]) ∧ Below w.heap.size w w') ∨ (scan okByte s 0 < s.size ∧ ∃ q, Thrown w e w' 2 (lineAt s (scan okByte s 0)) q) := by
  have h2 := scan_le okByte s 0 (Nat.zero_le _)
  go_enter Tryz.func30, Tryz.ntmps30
  go_wp2_with fail
  refine (newCursor_any s _).mono ?_
  rintro e w1 ⟨rfl, hB1⟩
  have HB1 : Hid (Below w.heap.size w w1) := hB1
  have hz1 := hB1.size
  clear hB1
  have HP1 : Hid (PC (w1.alloc (.cells #[.string s, .int .i64 0, .int .i64 1] 78)) w1.heap.size s 0) := ⟨by simp, by simp, by simp [lineAt], fun o => by simp, by simp⟩
  have HB2 : Hid (Below w.heap.size w (w1.alloc (.cells #[.string s, .int .i64 0, .int .i64 1] 78))) := HB1.out.alloc hz1 _
  go_wp2_with fail
  refine (take_mayStand w1.heap.size s 0 _ hs (Nat.zero_le _) HP1.out).mono ?_
  rintro e w3 ⟨rfl, hp3, hk3⟩
  have HP3 : Hid (PC w3 w1.heap.size s (scan okByte s 0)) := hp3
  have HB3 : Hid (Below w.heap.size w w3) := HB2.out.trans ((hk3.kb.bel (by simp)).mono hz1)
  clear hp3 hk3
  by_cases hd : scan okByte s 0 = s.size
  · have td : decide (scan okByte s 0 = s.size) = true := by simpa using hd
    have Hd : Hid (scan okByte s 0 = s.size) := hd
    clear hd
    go_wp2_with fail
    refine (done_any w1.heap.size s (scan okByte s 0) _ hs h2 HP3.out).mono ?_
    rintro e w4 ⟨rfl, k4, rfl⟩
    go_wp2_with fail
    go_returns
    exact .inl ⟨Hd.out, rfl, HB3.out.trans (((Kb.refl w1.heap.size w3).drewN k4).bel HP3.out.lt |>.mono hz1)⟩
  · have td : decide (scan okByte s 0 = s.size) = false := by simpa using hd
    have Hd : Hid (scan okByte s 0 < s.size) := by unfold Hid; omega
    clear hd
    go_wp2_with fail
    refine (done_any w1.heap.size s (scan okByte s 0) _ hs h2 HP3.out).mono ?_
    rintro e w4 ⟨rfl, k4, rfl⟩
    go_wp2_with fail
    refine (fail_any w1.heap.size s (scan okByte s 0) 2 _ (HP3.out.drewN k4)).mono ?_
    rintro e w5 ⟨q, hq⟩
    have he' := hq.e
    subst he'
    refine ⟨rfl, .inr ⟨Hd.out, q, Thrown.of hq ?_ hz1 ?_⟩⟩
    · exact (HP3.out.drewN k4).lt
    · exact HB3.out.trans (((Kb.refl w1.heap.size w3).drewN k4).bel HP3.out.lt |>.mono hz1)

theorem clone_any (s : ByteArray) (w : World) (hs : s.size ≤ 4000) :
    Calls Tryz.prog 32 #[.string s] w fun e w' => e = .returned (.string s) ∧ Below w.heap.size w w' := by
  go_enter Tryz.func32, Tryz.ntmps32
  go_wp2_with fail
  refine (Tryz.stringslite_Clone s _ (by omega)).mono ?_
  rintro e w1 ⟨rfl, hB⟩
  have HB : Hid (Below w.heap.size w w1) := hB
  clear hB
  go_wp2_with fail
  go_ret
  exact ⟨rfl, HB.out⟩

theorem failAt_new (k l : Nat) (w : World) : Calls Tryz.prog 29 #[.int .i64 k, .int .i64 l] w fun e w' => ∃ q, Thrown w e w' k l q := by
  go_enter Tryz.func29, Tryz.ntmps29
  go_wp2
  exact ⟨rfl, w.heap.size, ⟨rfl, Nat.le_refl _, by simp, by simp, by simp, (Below.refl _ _).alloc (Nat.le_refl _) _⟩⟩
/-- What was read, as it lies. -/
def SheetOk (w0 w : World) (q : Nat) (items : List It) : Prop :=
  ItsOk items ∧ items.length ≤ 4000 ∧ q < w.heap.size ∧ ∃ b nb hv pv ev es, w0.heap.size ≤ b ∧ b < q ∧ nb ≤ q ∧ w.cell? ⟨q, 0, none⟩ = some ev ∧ PT w b nb (jn (rtable items)) hv pv ev (hdrs items) (prs items) es items
/-- What Read comes to. -/
def ReadP (s : ByteArray) (w : World) (e : Ending) (w' : World) : Prop :=
  ((rread s).1.e = 0 ∧ ∃ q, e = .returned (ptr q) ∧ w.heap.size ≤ q ∧ SheetOk w w' q (rread s).2 ∧ Below w.heap.size w w') ∨ ((rread s).1.e ≠ 0 ∧ ∃ q, Thrown w e w' (rread s).1.e (rlineNo s (rread s).1) q)
theorem loop_off (s : ByteArray) (n : Nat) (x : St) (l : List It) (h : x.e ≠ 0) : rreadLoop s n x l = (x, l) := by
  cases n with
  | zero => rfl
  | succ n => simp only [rreadLoop]; rw [if_pos (.inl h)]
theorem loop_end (s : ByteArray) (n : Nat) (x : St) (l : List It) (h : s.size ≤ x.a) : rreadLoop s n x l = (x, l) := by
  cases n with
  | zero => rfl
  | succ n => simp only [rreadLoop]; rw [if_pos (.inr h)]
theorem loop_step (s : ByteArray) (n : Nat) (x : St) (l : List It) (he : x.e = 0) (h : x.a < s.size) : rreadLoop s (n + 1) x l = rreadLoop s n (lineZ s l x) (l ++ [(rline s l x).2]) := by
  simp only [rreadLoop]
  rw [if_neg (by rintro (q | q); exact q he; omega)]
  rfl
theorem lineZ_err {s : ByteArray} {x : St} (items : List It) (hi : Inv s x) (hx : x.e = 0) : ErrIn s (lineZ s items x) := by
  unfold lineZ
  have h0 : ErrIn s x := fun q => absurd hx q
  have h1 := e_line items hi h0 hx
  exact e_ite (e_must (gd_line items hi).1 h1 10) h1
theorem lineZ_a {s : ByteArray} {x : St} (items : List It) (ha : x.a < s.size) (hx : x.e = 0) (hz : (lineZ s items x).e = 0) : x.a < (lineZ s items x).a ∧ (lineZ s items x).a ≤ s.size := by
  have hi : Inv s x := ⟨by omega, fun _ => by omega⟩
  have hg := gd_line items hi
  have hg2 := hg.2
  unfold lineZ at *
  by_cases hc : (rline s items x).1.e = 0 ∧ (rline s items x).1.a < s.size
  · rw [if_pos hc] at hz ⊢
    have h10 : bt s (rline s items x).1.a = 10 := by
      apply Classical.byContradiction
      intro q
      rw [rmust_miss s _ 10 hc.1 (by decide) q] at hz
      cases hz
    rw [rmust_hit s _ 10 hc.1 (by decide) h10]
    exact ⟨by show x.a < (rline s items x).1.a + 1; omega, by show (rline s items x).1.a + 1 ≤ _; omega⟩
  · rw [if_neg hc] at hz ⊢
    have := hg.1.2 hz
    have : ¬ (rline s items x).1.a < s.size := fun q => hc ⟨hz, q⟩
    omega
theorem lineNo_of {s : ByteArray} {y : St} (h : ErrIn s y) (he : y.e ≠ 0) : rlineNo s y = lineAt s y.p := by
  unfold rlineNo
  rw [if_neg]
  rintro (q | q)
  · exact (h he).1 q
  · exact he q

set_option maxHeartbeats 4000000 in
theorem pread_any (s : ByteArray) (w : World) (m : Int) (hs63 : s.size ≤ 4611686018427387904) (hm : w.cell? ⟨1, 0, none⟩ = some (.int .i64 m)) :
    Calls Tryz.prog 16 #[.string s] w fun e w' => ReadP s w e w' := by
  have hGw := lt_of_cell hm
  have Hm : Hid _ := hm
  clear hm
  by_cases h4 : 4000 < s.size
  · have t4 : decide ((s.size : Int) > 4000) = true := by simp; omega
    have R : Hid ((rread s).1 = ⟨0, 1, 0⟩) := by
      unfold Hid rread
      rw [if_pos h4, rno_on _ _ _ rfl]
      have : ∀ n, rbytes s n ⟨0, 1, 0⟩ = ⟨0, 1, 0⟩ := by
        intro n
        induction n with
        | zero => rfl
        | succ n ih =>
          unfold rbytes
          rw [ih]
          split
          · rfl
          · exact rno_off _ _ _ (by decide)
      rw [this, loop_off _ _ _ _ (by decide)]
    clear h4
    go_enter Tryz.func16, Tryz.ntmps16
    go_wp2_with fail
    refine (failAt_new 1 0 _).mono ?_
    rintro e w1 ⟨q, hq⟩
    have he' := hq.e
    subst he'
    refine ⟨rfl, .inr ?_⟩
    rw [R.out]
    exact ⟨by simp, q, hq⟩
  · have t4 : decide ((s.size : Int) > 4000) = false := by simp; omega
    have hs : s.size ≤ 4000 := by omega
    have R0 : Hid (rread s = rreadLoop s (s.size + 1) (rbytes s s.size ⟨0, 0, 0⟩) []) := by
      unfold Hid rread
      rw [if_neg h4]
    have BF : Hid _ := bytes_first s s.size (Nat.le_refl _)
    clear h4
    go_enter Tryz.func16, Tryz.ntmps16
    go_wp2_with fail
    refine (checkBytes_any s _ hs).mono ?_
    rintro e w1 (⟨hsc, rfl, hB1⟩ | ⟨hsc, q, hq⟩)
    · have R1 : Hid (rread s = rreadLoop s (s.size + 1) ⟨0, 0, 0⟩ []) := by
        unfold Hid
        rw [R0.out]
        rcases BF.out with ⟨h1, _⟩ | ⟨i, h1, h2, h3, _⟩
        · rw [h1]
        · have : scan okByte s 0 = i := scan_first okByte s i (s.size - 0) 0 (Nat.zero_le _) (by omega) h1 (fun j _ q2 => h3 j q2) h2
          omega
      have HB1 : Hid (Below w.heap.size w w1) := hB1
      have hz1 := hB1.size
      clear hB1 BF R0 hsc
      go_wp2_with fail
      refine (clone_any s _ hs).mono ?_
      rintro e w2 ⟨rfl, hB2⟩
      have HB2 : Hid (Below w.heap.size w w2) := HB1.out.trans (hB2.mono hz1)
      have hz2 := HB2.out.size
      clear hB2
      go_wp2_with fail
      refine (newCursor_any s _).mono ?_
      rintro e w3 ⟨rfl, hB3⟩
      have HB3 : Hid (Below w.heap.size w w3) := HB2.out.trans (hB3.mono hz2)
      have hz3 := HB3.out.size
      clear hB3
      have HB4 : Hid (Below w.heap.size w (w3.alloc (.cells #[.string s, .int .i64 0, .int .i64 1, .string ⟨#[]⟩, .slice none 0 0, .slice none 0 0, .slice none 0 0] 85))) := HB3.out.alloc hz3 _
      have HS4 : Hid (PS (w3.alloc (.cells #[.string s, .int .i64 0, .int .i64 1, .string ⟨#[]⟩, .slice none 0 0, .slice none 0 0, .slice none 0 0] 85)) w3.heap.size s 0 []) := by
        refine ⟨⟨by simp, by simp, by simp [lineAt], fun o => by simp, by simp⟩, fun t ht => by simp at ht, by simp, w3.heap.size + 1, .slice none 0 0, .slice none 0 0, .slice none 0 0, [], ?_⟩
        exact ⟨by simp, by simp [rtable, jn], by simp, by simp, by simp, World.ownsRow_nil _ _ _ _, World.ownsRow_nil _ _ _ _, World.ownsRow_nil _ _ _ _, fun k hk => by simp [Value.ownBlock] at hk, fun k hk => by simp [Value.ownBlock] at hk, fun k hk => by simp [Value.ownBlock] at hk, rfl, fun i v t hi => by simp at hi⟩
      have hG : 1 < w3.heap.size := Nat.lt_of_lt_of_le hGw hz3
      generalize hb : w3.heap.size = b at *
      go_wp2_with fail
      go_loopw [] (fun wr => ∃ (n : Nat) (x : St) (items : List It), Hid (rread s = rreadLoop s (n + 1) x items) ∧ Hid (x.e = 0) ∧ x.a ≤ s.size ∧ s.size ≤ n + x.a ∧ items.length ≤ x.a ∧ Hid (PS wr b s x.a items) ∧ Hid (Below w.heap.size w wr)) (fun wr => s.size - atOf wr b)
      case atStart => exact ⟨s.size, ⟨0, 0, 0⟩, [], R1, rfl, Nat.zero_le _, by omega, Nat.zero_le _, HS4, HB4⟩
      case round =>
        clear HS4 HB4 R1
        obtain ⟨n, x, items, hr, hx0, hx1, hn, hil, hps, hBr⟩ := hrel
        by_cases hd : x.a = s.size
        · have td : decide (x.a = s.size) = true := by simpa using hd
          have F : Hid (rread s = (x, items)) := by
            unfold Hid
            rw [hr.out, loop_end _ _ _ _ (by omega)]
          have hltb := hps.out.pc.lt
          obtain ⟨nb, hv, pv, ev, es, hpt⟩ := hps.out.pt
          have HPT : Hid (PT wr b nb (jn (rtable items)) hv pv ev (hdrs items) (prs items) es items) := hpt
          have hc6 := hpt.c6
          clear hd hpt
          obtain ⟨ad6, cap6, hv6⟩ := ownsS_form HPT.out.o6
          subst hv6
          go_wp2_with fail
          refine (done_any b s x.a _ hs hx1 hps.out.pc).mono ?_
          rintro e w5 ⟨rfl, k5, rfl⟩
          have HPT5 : Hid (PT (wr.drewN k5) b nb (jn (rtable items)) hv pv (.slice ad6 es.length cap6) (hdrs items) (prs items) es items) := HPT.out.kc ((Kc.refl _ _).drewN k5)
          have HB5 : Hid (Below w.heap.size w (wr.drewN k5)) := hBr.out.trans ((((Kb.refl b wr).drewN k5).bel hltb).mono (by omega))
          have hlt5 : b < (wr.drewN k5).heap.size := hltb
          have hc65 : (wr.drewN k5).cell? ⟨b, 6, none⟩ = some (.slice ad6 es.length cap6) := hc6
          clear HPT hc6
          generalize wr.drewN k5 = w5 at *
          go_wp2_with fail
          go_ret
          refine .inl ⟨by rw [F.out]; exact hx0.out, _, rfl, HB5.out.size, ?_, HB5.out.alloc HB5.out.size _⟩
          rw [F.out]
          refine ⟨hps.out.ok, hps.out.len, by simp, b, nb, hv, pv, .slice ad6 es.length cap6, es, by omega, hlt5, HPT5.out.bnd, ?_, HPT5.out.alloc hlt5 _⟩
          rw [World.cell?_alloc_at _ _ _ _ rfl]
          rfl
        · have td : decide (x.a = s.size) = false := by simpa using hd
          have hxl : x.a < s.size := by omega
          have hltb := hps.out.pc.lt
          clear hd
          go_wp2_with fail
          refine (done_any b s x.a _ hs hx1 hps.out.pc).mono ?_
          rintro e w5 ⟨rfl, k5, rfl⟩
          have HPS5 : Hid (PS (wr.drewN k5) b s x.a items) := hps.out.drewN k5
          have HB5 : Hid (Below w.heap.size w (wr.drewN k5)) := hBr.out.trans ((((Kb.refl b wr).drewN k5).bel hltb).mono (by omega))
          have Hm5 : Hid ((wr.drewN k5).cell? ⟨1, 0, none⟩ = some (.int .i64 m)) := by
            unfold Hid
            rw [HB5.out.cell (p := ⟨1, 0, none⟩) hGw]
            exact Hm.out
          generalize wr.drewN k5 = w5 at *
          go_wp2_with fail
          refine (readLine_any b s items x _ m hs hx0.out hx1 (by omega) hG Hm5.out HPS5.out).mono ?_
          have LE : Hid (ErrIn s (lineZ s items x)) := lineZ_err items ⟨by omega, fun _ => hx1⟩ hx0.out
          have ST : Hid (rread s = rreadLoop s n (lineZ s items x) (items ++ [(rline s items x).2])) := by
            unfold Hid
            rw [hr.out, loop_step _ _ _ _ hx0.out hxl]
          rintro e w6 (⟨rfl, hz, hps6, hB6⟩ | ⟨hz, q, rfl, q1, q2, q3, q4, q5⟩)
          · obtain ⟨a1, a2⟩ := lineZ_a items hxl hx0.out hz
            have HPS6 : Hid (PS w6 b s (lineZ s items x).a (items ++ [(rline s items x).2])) := hps6
            have HB6 : Hid (Below w.heap.size w w6) := HB5.out.trans (hB6.mono (by omega))
            have HZ : Hid ((lineZ s items x).e = 0) := hz
            clear hps6 hB6 hz
            obtain ⟨n', hn'⟩ : ∃ n', n = n' + 1 := ⟨n - 1, by omega⟩
            subst hn'
            go_wp2_with fail
            go_roundw
            case rel => exact ⟨n', lineZ s items x, items ++ [(rline s items x).2], ST, HZ, a2, by omega, by simp; omega, HPS6, HB6⟩
            case measure =>
              rw [HPS6.out.pc.atOf, hps.out.pc.atOf]
              omega
          · refine ⟨rfl, .inr ?_⟩
            have F : (rread s).1 = lineZ s items x := by
              rw [ST.out, loop_off _ _ _ _ hz]
            rw [F]
            refine ⟨hz, q, ⟨rfl, by omega, q2, q3, ?_, HB5.out.trans (q5.mono (by omega))⟩⟩
            rw [lineNo_of LE.out hz]
            exact q4
    · have he' := hq.e
      subst he'
      refine ⟨rfl, .inr ?_⟩
      have F : (rread s).1 = ⟨0, 2, scan okByte s 0⟩ := by
        rw [R0.out]
        rcases BF.out with ⟨_, h2⟩ | ⟨i, h1, h2, h3, h4⟩
        · have : scan okByte s 0 = s.size := scan_all okByte s (s.size - 0) 0 (by omega) (fun i _ q => h2 i q)
          omega
        · have e : scan okByte s 0 = i := scan_first okByte s i (s.size - 0) 0 (Nat.zero_le _) (by omega) h1 (fun j _ q2 => h3 j q2) h2
          rw [h4, loop_off _ _ _ _ (by simp), e]
      rw [F]
      exact ⟨by simp, q, hq⟩
end Go.Proofs.YtmofaleglnihaaaGreatDoor

namespace Go.Proofs.YtmofaleglnihaaaGreatDoor
open Go.RowKit Go.Extern.Stop Go.Stop Go.Extern
set_option linter.unusedVariables false
set_option linter.unusedSimpArgs false

theorem valueOf_pp (t : Addr) (w : World) : (ReflectliteValue.unpack (.iface 74 (.pointer (some t)))).run Tryz.prog w
    = .ok (.agg #[.pointer (some ⟨7, 74, none⟩), .pointer (some ⟨w.heap.size, 0, none⟩), .int .u64 150]) (w.alloc (.cells #[.pointer (some t)] 74)) := by kernel_rfl
theorem type_pp (a : Addr) (w : World) : (ReflectliteValue.methodAny (ReflectliteValue.valueError "reflectlite.Value.Type" 0) (fun t _ _ _ => ReflectliteType.toType t) #[.agg #[.pointer (some ⟨7, 74, none⟩), .pointer (some a), .int .u64 150]]).run Tryz.prog w
    = .ok (.iface 91 (.agg #[.pointer (some ⟨7, 74, none⟩)])) w := by kernel_rfl
theorem m_kind (h : Value) (w : World) : (Go.method 359 91 (.agg #[h]) "Kind").run Tryz.prog w = .ok (158, h) w := by kernel_rfl
theorem kind_pp (w : World) : ((ReflectliteType.abiMethod fun t => Functor.map (fun a : Nat => Value.int IntKind.u8 (a : Int)) (Rtype.kind t)) #[.pointer (some ⟨7, 74, none⟩)]).run Tryz.prog w = .ok (.int .u8 22) w := by kernel_rfl
theorem kind_p (w : World) : ((ReflectliteType.abiMethod fun t => Functor.map (fun a : Nat => Value.int IntKind.u8 (a : Int)) (Rtype.kind t)) #[.pointer (some ⟨7, 69, none⟩)]).run Tryz.prog w = .ok (.int .u8 22) w := by kernel_rfl
theorem parts_pp (a : Addr) (w : World) : (ReflectliteValue.parts (.agg #[.pointer (some ⟨7, 74, none⟩), .pointer (some a), .int .u64 150])).run Tryz.prog w = .ok (some (74, a, 150)) w := by kernel_rfl
theorem isNil_pp (a p : Addr) (W : World) (ha : W.cell? a = some (.pointer (some p))) :
    (ReflectliteValue.method (ReflectliteValue.valueError "reflectlite.Value.IsNil" 0) ReflectliteValue.isNil #[.agg #[.pointer (some ⟨7, 74, none⟩), .pointer (some a), .int .u64 150]]).run Tryz.prog W = .ok (.bool false) W := by
  have e : (ReflectliteValue.method (ReflectliteValue.valueError "reflectlite.Value.IsNil" 0) ReflectliteValue.isNil #[.agg #[.pointer (some ⟨7, 74, none⟩), .pointer (some a), .int .u64 150]]).run Tryz.prog W = (ReflectliteValue.isNil 74 a 150 22).run Tryz.prog W := by kernel_rfl
  rw [e]
  simp [ReflectliteValue.isNil, loadVar, isAgg, underlying, Tryz.underlying74, ha, Result.andThen]
theorem m_elem (h : Value) (w : World) : (Go.method 359 91 (.agg #[h]) "Elem").run Tryz.prog w = .ok (168, .agg #[h]) w := by kernel_rfl
theorem m_impl (h : Value) (w : World) : (Go.method 359 91 (.agg #[h]) "Implements").run Tryz.prog w = .ok (169, .agg #[h]) w := by kernel_rfl
theorem m_assign (h : Value) (w : World) : (Go.method 359 91 (.agg #[h]) "AssignableTo").run Tryz.prog w = .ok (166, .agg #[h]) w := by kernel_rfl
theorem elem_pp (w : World) : (ReflectliteType.method ReflectliteType.elem #[.agg #[.pointer (some ⟨7, 74, none⟩)]]).run Tryz.prog w = .ok (.iface 91 (.agg #[.pointer (some ⟨7, 69, none⟩)])) w := by kernel_rfl
theorem impl_p (w : World) : (ReflectliteType.relation "Implements" ReflectliteType.implements_ #[.agg #[.pointer (some ⟨7, 69, none⟩)], .iface 91 (.agg #[.pointer (some ⟨7, 28, none⟩)])]).run Tryz.prog w = .ok (.bool true) w := by kernel_rfl
theorem typeOf_p (v : Value) (w : World) : (ReflectliteType.typeOf #[.iface 69 v]).run Tryz.prog w = .ok (.iface 91 (.agg #[.pointer (some ⟨7, 69, none⟩)])) w := by kernel_rfl
theorem assign_p (w : World) : (ReflectliteType.relation "AssignableTo" ReflectliteType.assignableTo #[.agg #[.pointer (some ⟨7, 69, none⟩)], .iface 91 (.agg #[.pointer (some ⟨7, 69, none⟩)])]).run Tryz.prog w = .ok (.bool true) w := by kernel_rfl
theorem valueOf_p (e : Addr) (w : World) : (ReflectliteValue.unpack (.iface 69 (.pointer (some e)))).run Tryz.prog w
    = .ok (.agg #[.pointer (some ⟨7, 69, none⟩), .pointer (some ⟨w.heap.size, 0, none⟩), .int .u64 150]) (w.alloc (.cells #[.pointer (some e)] 69)) := by kernel_rfl
theorem elemOf_pp (w : World) : (Rtype.elem? 74).run Tryz.prog w = .ok (some 69) w := by kernel_rfl
theorem mk_p (p : Addr) (w : World) : (ReflectliteValue.mk 69 p ReflectliteValue.flagAddr).run Tryz.prog w = .ok (.agg #[.pointer (some ⟨7, 69, none⟩), .pointer (some p), .int .u64 406]) w := by kernel_rfl
theorem elemV_pp (a p : Addr) (W : World) (ha : W.cell? a = some (.pointer (some p))) :
    (ReflectliteValue.method (ReflectliteValue.valueError "reflectlite.Value.Elem" 0) ReflectliteValue.elem #[.agg #[.pointer (some ⟨7, 74, none⟩), .pointer (some a), .int .u64 150]]).run Tryz.prog W
      = .ok (.agg #[.pointer (some ⟨7, 69, none⟩), .pointer (some p), .int .u64 406]) W := by
  have e : (ReflectliteValue.method (ReflectliteValue.valueError "reflectlite.Value.Elem" 0) ReflectliteValue.elem #[.agg #[.pointer (some ⟨7, 74, none⟩), .pointer (some a), .int .u64 150]]).run Tryz.prog W = (ReflectliteValue.elem 74 a 150 22).run Tryz.prog W := by kernel_rfl
  rw [e]
  simp [ReflectliteValue.elem, loadVar, isAgg, underlying, Tryz.underlying74, ha, Result.andThen, elemOf_pp, mk_p]
theorem parts_pa (a : Addr) (w : World) : (ReflectliteValue.parts (.agg #[.pointer (some ⟨7, 69, none⟩), .pointer (some a), .int .u64 406])).run Tryz.prog w = .ok (some (69, a, 406)) w := by kernel_rfl
theorem parts_p (a : Addr) (w : World) : (ReflectliteValue.parts (.agg #[.pointer (some ⟨7, 69, none⟩), .pointer (some a), .int .u64 150])).run Tryz.prog w = .ok (some (69, a, 150)) w := by kernel_rfl
theorem direct_p (w : World) : (Rtype.directlyAssignable 69 69).run Tryz.prog w = .ok true w := by kernel_rfl
theorem set_p (ta b e : Addr) (old : Value) (W : World) (hb : W.cell? b = some (.pointer (some e))) (ht : W.cell? ta = some old) (hf : W.frozen? ta = false) :
    (ReflectliteValue.set #[.agg #[.pointer (some ⟨7, 69, none⟩), .pointer (some ta), .int .u64 406], .agg #[.pointer (some ⟨7, 69, none⟩), .pointer (some b), .int .u64 150]]).run Tryz.prog W
      = .ok (.tuple #[]) (W.setCell ta (.pointer (some e))) := by
  have e' : (ReflectliteValue.set #[.agg #[.pointer (some ⟨7, 69, none⟩), .pointer (some ta), .int .u64 406], .agg #[.pointer (some ⟨7, 69, none⟩), .pointer (some b), .int .u64 150]]).run Tryz.prog W
      = (loadVar 69 b >>= fun val => storeVar 69 ta val >>= fun _ => pure (.tuple #[])).run Tryz.prog W := by kernel_rfl
  rw [e']
  simp only [Sem.run_bind]
  simp [ReflectliteValue.flagAddr, loadVar, isAgg, underlying, Tryz.underlying69, hb, Result.andThen, direct_p, storeVar, Value.cells, storeCells, Addr.add]
  rw [run_store Tryz.prog W ta _ _ (by rfl)]
  simp [ht, hf]
end Go.Proofs.YtmofaleglnihaaaGreatDoor

namespace Go.Proofs.YtmofaleglnihaaaGreatDoor
open Go.RowKit Go.Extern.Stop Go.Stop Go.Extern
set_option linter.unusedVariables false
set_option linter.unusedSimpArgs false

abbrev vpp (a : Addr) : Obj := .cells #[.pointer (some ⟨7, 74, none⟩), .pointer (some a), .int .u64 150] 120
set_option maxHeartbeats 4000000 in
theorem as_hit (e t : Addr) (old : Value) (w : World) (hg : w.cell? ⟨0, 0, none⟩ = some (.iface 91 (.agg #[.pointer (some ⟨7, 28, none⟩)]))) (ht0 : w.cell? t = some old) (hf0 : w.frozen? t = false) :
    Calls Tryz.prog 28 #[.iface 69 (.pointer (some e)), .iface 74 (.pointer (some t))] w fun ev w' => ev = .returned (.bool true) ∧
      w' = ((((w.alloc (.cells #[.pointer (some t)] 74)).alloc (vpp ⟨w.heap.size, 0, none⟩)).alloc (vpp ⟨w.heap.size, 0, none⟩)).alloc (.cells #[.pointer (some e)] 69)).setCell t (.pointer (some e)) := by
  have x1 := @run_callFunc_extern Tryz.prog 44 _ (fun args => ReflectliteValue.unpack (args.getD 0 (.tuple #[]))) Tryz.func44 (by kernel_rfl) (by kernel_rfl) (by kernel_rfl) (by kernel_rfl)
  have x2 := @run_callFunc_extern Tryz.prog 45 _ (ReflectliteValue.methodAny (ReflectliteValue.valueError "reflectlite.Value.Type" 0) (fun t _ _ _ => ReflectliteType.toType t)) Tryz.func45 (by kernel_rfl) (by kernel_rfl) (by kernel_rfl) (by kernel_rfl)
  have x3 := @run_callFunc_extern Tryz.prog 46 _ (ReflectliteValue.method (ReflectliteValue.valueError "reflectlite.Value.IsNil" 0) ReflectliteValue.isNil) Tryz.func46 (by kernel_rfl) (by kernel_rfl) (by kernel_rfl) (by kernel_rfl)
  have x4 := @run_callFunc_extern Tryz.prog 158 _ (ReflectliteType.abiMethod fun t => do pure (.int .u8 (← Rtype.kind t))) Tryz.func158 (by kernel_rfl) (by kernel_rfl) (by kernel_rfl) (by kernel_rfl)
  have x5 := @run_callFunc_extern Tryz.prog 168 _ (ReflectliteType.method ReflectliteType.elem) Tryz.func168 (by kernel_rfl) (by kernel_rfl) (by kernel_rfl) (by kernel_rfl)
  have x6 := @run_callFunc_extern Tryz.prog 169 _ (ReflectliteType.relation "Implements" ReflectliteType.implements_) Tryz.func169 (by kernel_rfl) (by kernel_rfl) (by kernel_rfl) (by kernel_rfl)
  have x7 := @run_callFunc_extern Tryz.prog 20 _ ReflectliteType.typeOf Tryz.func20 (by kernel_rfl) (by kernel_rfl) (by kernel_rfl) (by kernel_rfl)
  have x8 := @run_callFunc_extern Tryz.prog 166 _ (ReflectliteType.relation "AssignableTo" ReflectliteType.assignableTo) Tryz.func166 (by kernel_rfl) (by kernel_rfl) (by kernel_rfl) (by kernel_rfl)
  have x9 := @run_callFunc_extern Tryz.prog 63 _ (ReflectliteValue.method (ReflectliteValue.valueError "reflectlite.Value.Elem" 0) ReflectliteValue.elem) Tryz.func63 (by kernel_rfl) (by kernel_rfl) (by kernel_rfl) (by kernel_rfl)
  have x10 := @run_callFunc_extern Tryz.prog 64 _ ReflectliteValue.set Tryz.func64 (by kernel_rfl) (by kernel_rfl) (by kernel_rfl) (by kernel_rfl)
  have y1 := typeOf_p
  have y2 := m_assign
  have y3 := assign_p
  have y4 := valueOf_p
  have y5 := valueOf_pp
  have y6 := type_pp
  have y7 := m_kind
  have y8 := m_elem
  have y9 := m_impl
  have y10 := kind_pp
  have y11 := kind_p
  have y12 := elem_pp
  have y13 := impl_p
  have hlt := lt_of_cell hg
  have htl : t.block < w.heap.size := by
    rcases Nat.lt_or_ge t.block w.heap.size with h | h
    · exact h
    · simp [World.cell?, Array.getElem?_eq_none h] at ht0
  have z1 := isNil_pp ⟨w.heap.size, 0, none⟩ t ((w.alloc (.cells #[.pointer (some t)] 74)).alloc (vpp ⟨w.heap.size, 0, none⟩)) (by simp)
  have z2 : ((w.alloc (.cells #[.pointer (some t)] 74)).alloc (vpp ⟨w.heap.size, 0, none⟩)).cell? ⟨0, 0, none⟩ = some (.iface 91 (.agg #[.pointer (some ⟨7, 28, none⟩)])) := by
    rw [World.cell?_alloc_lt _ _ ⟨0, 0, none⟩ (by simp <;> omega), World.cell?_alloc_lt _ _ ⟨0, 0, none⟩ hlt]; exact hg
  have z3 := elemV_pp ⟨w.heap.size, 0, none⟩ t (((w.alloc (.cells #[.pointer (some t)] 74)).alloc (vpp ⟨w.heap.size, 0, none⟩)).alloc (vpp ⟨w.heap.size, 0, none⟩)) (by rw [World.cell?_alloc_lt _ _ ⟨w.heap.size, 0, none⟩ (by simp; omega)]; simp)
  have z4 := set_p t ⟨w.heap.size + 1 + 1 + 1, 0, none⟩ e old ((((w.alloc (.cells #[.pointer (some t)] 74)).alloc (vpp ⟨w.heap.size, 0, none⟩)).alloc (vpp ⟨w.heap.size, 0, none⟩)).alloc (.cells #[.pointer (some e)] 69))
    (by rw [World.cell?_alloc_at _ _ _ _ (by simp)]; rfl)
    (by rw [World.cell?_alloc_lt _ _ t (by simp; omega), World.cell?_alloc_lt _ _ t (by simp; omega), World.cell?_alloc_lt _ _ t (by simp; omega), World.cell?_alloc_lt _ _ t htl]; exact ht0)
    (by rw [World.frozen?_alloc_old _ _ t (by simp; omega), World.frozen?_alloc_old _ _ t (by simp; omega), World.frozen?_alloc_old _ _ t (by simp; omega), World.frozen?_alloc_old _ _ t (Nat.ne_of_lt htl)]; exact hf0)
  go_enter Tryz.func28, Tryz.ntmps28
  go_wp2
  refine wp_loop_rounds 1 ?_
  rw [rounds_succ]
  go_wp2
  go_ret
  exact ⟨rfl, rfl⟩

theorem assert_err (v : Value) (w : World) : (Instr.typeAssert (.iface 69 v) 20 28 true).run Tryz.prog w = .ok (.tuple #[.iface 69 v, .bool true]) w := by kernel_rfl
theorem faultOf_any (q : Nat) (w : World) (hg : w.cell? ⟨0, 0, none⟩ = some (.iface 91 (.agg #[.pointer (some ⟨7, 28, none⟩)]))) :
    Calls Tryz.prog 15 #[.iface 69 (.pointer (some ⟨q, 0, none⟩))] w fun e w' => e = .returned (.iface 69 (.pointer (some ⟨q, 0, none⟩))) ∧ Below w.heap.size w w' := by
  have hta := assert_err
  have Hg : Hid _ := hg
  have hlt := lt_of_cell hg
  clear hg
  have HG1 : Hid ((w.alloc (.cells #[.pointer none] 69)).cell? ⟨0, 0, none⟩ = some (.iface 91 (.agg #[.pointer (some ⟨7, 28, none⟩)]))) := by
    unfold Hid
    rw [World.cell?_alloc_lt _ _ ⟨0, 0, none⟩ hlt]
    exact Hg.out
  go_enter Tryz.func15, Tryz.ntmps15
  go_wp2_with fail
  refine (as_hit ⟨q, 0, none⟩ ⟨w.heap.size, 0, none⟩ (.pointer none) _ HG1.out (by simp) (by simp)).mono ?_
  rintro e w1 ⟨rfl, hw1⟩
  have hc : w1.cell? ⟨w.heap.size, 0, none⟩ = some (.pointer (some ⟨q, 0, none⟩)) := by
    rw [hw1]
    refine cell_set_same _ _ _ _ (.pointer none) ?_
    rw [World.cell?_alloc_lt _ _ ⟨w.heap.size, 0, none⟩ (by simp <;> omega), World.cell?_alloc_lt _ _ ⟨w.heap.size, 0, none⟩ (by simp <;> omega), World.cell?_alloc_lt _ _ ⟨w.heap.size, 0, none⟩ (by simp <;> omega), World.cell?_alloc_lt _ _ ⟨w.heap.size, 0, none⟩ (by simp)]
    simp
  have HB : Hid (Below w.heap.size w w1) := by
    unfold Hid
    rw [hw1]
    exact ((((((Below.refl _ _).alloc (Nat.le_refl _) _).alloc (by simp) _).alloc (by simp <;> omega) _).alloc (by simp <;> omega) _).alloc (by simp <;> omega) _).setCell (p := ⟨w.heap.size, 0, none⟩) (Nat.le_refl _) _
  clear hw1
  go_wp2_with fail
  go_ret
  exact ⟨rfl, HB.out⟩
end Go.Proofs.YtmofaleglnihaaaGreatDoor

namespace Go.Proofs.YtmofaleglnihaaaGreatDoor
open Go.RowKit Go.Extern.Stop Go.Stop Go.Extern
set_option linter.unusedVariables false
set_option linter.unusedSimpArgs false

theorem catch_idle (p1 p2 : Addr) (w : World) :
    CallsD Tryz.prog 14 #[.pointer (some p1), .pointer (some p2)] .returning w fun e u' w' => e = .returned (.tuple #[]) ∧ u' = .returning ∧ w' = w := by
  refine callsD_of_wpS Tryz.func14 rfl fun c₀ cs hu => ?_
  apply wpS_seq
  apply wpS_region
  simp [wpOpsS, go_sem, recoverD, hu, Tryz.ntmps14, Exit.thenS]
  refine wpS_of_wp ?_
  go_wp2_with fail
  cases c₀
  simp_all [bodyPostS, results, Tryz.results14]

theorem catch_thrown (b1 b2 q : Nat) (u1 u2 : Value) (w : World) (hg : w.cell? ⟨0, 0, none⟩ = some (.iface 91 (.agg #[.pointer (some ⟨7, 28, none⟩)])))
    (h1 : w.cell? ⟨b1, 0, none⟩ = some u1) (h2 : w.cell? ⟨b2, 0, none⟩ = some u2) (hF1 : w.frozen? ⟨b1, 0, none⟩ = false) (hF2 : w.frozen? ⟨b2, 0, none⟩ = false) (hne : b1 ≠ b2) :
    CallsD Tryz.prog 14 #[.pointer (some ⟨b1, 0, none⟩), .pointer (some ⟨b2, 0, none⟩)] (.panicking ({ v := .iface 69 (.pointer (some ⟨q, 0, none⟩)), recovered := false } :: [])) w fun e u' w' =>
      e = .returned (.tuple #[]) ∧ u' = .panicking ({ v := .iface 69 (.pointer (some ⟨q, 0, none⟩)), recovered := true } :: []) ∧
      ∃ w1, Below w.heap.size w w1 ∧ w' = (w1.setCell ⟨b1, 0, none⟩ (.pointer none)).setCell ⟨b2, 0, none⟩ (.iface 69 (.pointer (some ⟨q, 0, none⟩))) := by
  have Hg : Hid _ := hg
  have l1 := lt_of_cell h1
  have l2 := lt_of_cell h2
  have H1 : Hid _ := h1
  have H2 : Hid _ := h2
  clear hg h1 h2
  refine callsD_of_wpS Tryz.func14 rfl fun c₀ cs hu => ?_
  apply wpS_seq
  apply wpS_region
  simp [wpOpsS, go_sem, recoverD, hu, Tryz.ntmps14, Exit.thenS]
  refine wpS_of_wp ?_
  go_wp2_with fail
  refine (faultOf_any q _ Hg.out).mono ?_
  rintro e w1 ⟨rfl, hB⟩
  have c1 : w1.cell? ⟨b1, 0, none⟩ = some u1 := by rw [hB.cell (p := ⟨b1, 0, none⟩) l1]; exact H1.out
  have c2 : (w1.setCell ⟨b1, 0, none⟩ (.pointer none)).cell? ⟨b2, 0, none⟩ = some u2 := by
    rw [World.cell?_setCell_other _ _ _ _ (by intro e; simp only [Addr.mk.injEq, and_true] at e; exact hne e), hB.cell (p := ⟨b2, 0, none⟩) l2]
    exact H2.out
  have f1 : w1.frozen? ⟨b1, 0, none⟩ = false := by rw [hB.frozen (p := ⟨b1, 0, none⟩) l1]; exact hF1
  have f2 : (w1.setCell ⟨b1, 0, none⟩ (.pointer none)).frozen? ⟨b2, 0, none⟩ = false := by rw [World.frozen?_setCell, hB.frozen (p := ⟨b2, 0, none⟩) l2]; exact hF2
  have HB : Hid (Below w.heap.size w w1) := hB
  clear hB
  go_wp2_with fail
  simp [bodyPostS, results, Tryz.results14]
  exact ⟨w1, HB.out, rfl⟩

/-- What Parse comes to. -/
def ParseP (s : ByteArray) (w : World) (e : Ending) (w' : World) : Prop :=
  ((rread s).1.e = 0 ∧ ∃ d q, e = .returned (.tuple #[ptr d, .nilIface]) ∧ w.heap.size ≤ d ∧ d < w'.heap.size ∧ w'.cell? ⟨d, 0, none⟩ = some (ptr q) ∧ SheetOk w w' q (rread s).2 ∧ Below w.heap.size w w') ∨
  ((rread s).1.e ≠ 0 ∧ ∃ q, e = .returned (.tuple #[.pointer none, .iface 69 (ptr q)]) ∧ q < w'.heap.size ∧ w'.cell? ⟨q, 0, none⟩ = some (.int .i64 (rread s).1.e) ∧ w'.cell? ⟨q, 1, none⟩ = some (.int .i64 (rlineNo s (rread s).1)) ∧ Below w.heap.size w w')
theorem SheetOk.frame {w0 w1 w w' : World} {q : Nat} {items : List It} (h : SheetOk w1 w q items) (h0 : w0.heap.size ≤ w1.heap.size) (hz : w.heap.size ≤ w'.heap.size) (hb : ∀ k, w1.heap.size ≤ k → k < w.heap.size → w'.heap[k]? = w.heap[k]?) : SheetOk w0 w' q items := by
  obtain ⟨h1, h2, h3, b, nb, hv, pv, ev, es, a1, a2, a3, a4, a5⟩ := h
  refine ⟨h1, h2, Nat.lt_of_lt_of_le h3 hz, b, nb, hv, pv, ev, es, Nat.le_trans h0 a1, a2, a3, ?_, ?_⟩
  · exact (World.cell?_of_block (w := w) (hb q (by omega) h3)).trans a4
  · have hbb := hb b a1 (by omega)
    exact a5.frame (fun o _ => World.cell?_of_block (w := w) hbb) hz (fun k k1 k2 => hb k (by omega) k2)

set_option maxHeartbeats 2000000 in
theorem parse_any (s : ByteArray) (w : World) (m : Int) (hs63 : s.size ≤ 4611686018427387904) (hm : w.cell? ⟨1, 0, none⟩ = some (.int .i64 m))
    (hg : w.cell? ⟨0, 0, none⟩ = some (.iface 91 (.agg #[.pointer (some ⟨7, 28, none⟩)]))) :
    Calls Tryz.prog 7 #[.string s] w fun e w' => ParseP s w e w' := by
  have hmf : ∀ (fn : Fn) (first cap : Array Value) (w : World), (Instr.makeFunc fn first cap).run Tryz.prog w = .ok (.func fn first cap) w := fun _ _ _ _ => rfl
  have lm := lt_of_cell hm
  have lg := lt_of_cell hg
  have Hm : Hid (((w.alloc (.cells #[.pointer none] 26)).alloc (.cells #[.nilIface] 28)).cell? ⟨1, 0, none⟩ = some (.int .i64 m)) := by
    unfold Hid
    rw [World.cell?_alloc_lt _ _ ⟨1, 0, none⟩ (by simp <;> omega), World.cell?_alloc_lt _ _ ⟨1, 0, none⟩ lm]
    exact hm
  have Hg : Hid (((w.alloc (.cells #[.pointer none] 26)).alloc (.cells #[.nilIface] 28)).cell? ⟨0, 0, none⟩ = some (.iface 91 (.agg #[.pointer (some ⟨7, 28, none⟩)]))) := by
    unfold Hid
    rw [World.cell?_alloc_lt _ _ ⟨0, 0, none⟩ (by simp <;> omega), World.cell?_alloc_lt _ _ ⟨0, 0, none⟩ lg]
    exact hg
  have W2 : Hid (((w.alloc (.cells #[.pointer none] 26)).alloc (.cells #[.nilIface] 28)).heap.size = w.heap.size + 2 ∧ ((w.alloc (.cells #[.pointer none] 26)).alloc (.cells #[.nilIface] 28)).cell? ⟨w.heap.size, 0, none⟩ = some (.pointer none) ∧
      ((w.alloc (.cells #[.pointer none] 26)).alloc (.cells #[.nilIface] 28)).cell? ⟨w.heap.size + 1, 0, none⟩ = some .nilIface ∧ ((w.alloc (.cells #[.pointer none] 26)).alloc (.cells #[.nilIface] 28)).frozen? ⟨w.heap.size, 0, none⟩ = false ∧
      ((w.alloc (.cells #[.pointer none] 26)).alloc (.cells #[.nilIface] 28)).frozen? ⟨w.heap.size + 1, 0, none⟩ = false ∧ Below w.heap.size w ((w.alloc (.cells #[.pointer none] 26)).alloc (.cells #[.nilIface] 28))) :=
    ⟨by simp, by simp, by simp, by simp, by simp, ((Below.refl _ _).alloc (Nat.le_refl _) _).alloc (by simp) _⟩
  clear hm hg
  go_enter_defers Tryz.func7, Tryz.ntmps7
  go_wp2_with fail
  generalize (w.alloc (.cells #[.pointer none] 26)).alloc (.cells #[.nilIface] 28) = w2 at *
  obtain ⟨z2, c0, c1, f0, f1, b2⟩ := W2.out
  refine (pread_any s _ m hs63 Hm.out).mono ?_
  rintro e w3 (⟨h0, q, rfl, hq1, hsh, hB⟩ | ⟨h0, q, hq⟩)
  · have d0 : w3.cell? ⟨w.heap.size, 0, none⟩ = some (.pointer none) := by rw [hB.cell (p := ⟨w.heap.size, 0, none⟩) (by simp only; omega)]; exact c0
    have d1 : w3.cell? ⟨w.heap.size + 1, 0, none⟩ = some .nilIface := by rw [hB.cell (p := ⟨w.heap.size + 1, 0, none⟩) (by simp only; omega)]; exact c1
    have g0 : w3.frozen? ⟨w.heap.size, 0, none⟩ = false := by rw [hB.frozen (p := ⟨w.heap.size, 0, none⟩) (by simp only; omega)]; exact f0
    have g1 : w3.frozen? ⟨w.heap.size + 1, 0, none⟩ = false := by rw [hB.frozen (p := ⟨w.heap.size + 1, 0, none⟩) (by simp only; omega)]; exact f1
    have l3 : w.heap.size + 1 < w3.heap.size := by have := hB.size; omega
    have HH : Hid ((rread s).1.e = 0 ∧ w2.heap.size ≤ q ∧ SheetOk w2 w3 q (rread s).2 ∧ Below w2.heap.size w2 w3) := ⟨h0, hq1, hsh, hB⟩
    have e0 : ∀ o, (w3.alloc o).cell? ⟨w.heap.size, 0, none⟩ = some (.pointer none) := fun o => by rw [World.cell?_alloc_lt _ _ ⟨w.heap.size, 0, none⟩ (by simp only; omega)]; exact d0
    have e1 : ∀ o v, ((w3.setCell ⟨w.heap.size, 0, none⟩ v).alloc o).cell? ⟨w.heap.size + 1, 0, none⟩ = some .nilIface := fun o v => by
      rw [World.cell?_alloc_lt _ _ ⟨w.heap.size + 1, 0, none⟩ (by simp [World.setCell]; omega), World.cell?_setCell_other _ _ _ _ (by intro e; simp only [Addr.mk.injEq, and_true] at e; omega)]; exact d1
    have e2 : ∀ o v, ((w3.alloc o).setCell ⟨w.heap.size, 0, none⟩ v).cell? ⟨w.heap.size + 1, 0, none⟩ = some .nilIface := fun o v => by
      rw [World.cell?_setCell_other _ _ _ _ (by intro e; simp only [Addr.mk.injEq, and_true] at e; omega), World.cell?_alloc_lt _ _ ⟨w.heap.size + 1, 0, none⟩ (by simp only; omega)]; exact d1
    have k0 : ∀ o, (w3.alloc o).frozen? ⟨w.heap.size, 0, none⟩ = false := fun o => by rw [World.frozen?_alloc_old _ _ _ (by simp only; omega)]; exact g0
    have k1 : ∀ o v, ((w3.setCell ⟨w.heap.size, 0, none⟩ v).alloc o).frozen? ⟨w.heap.size + 1, 0, none⟩ = false := fun o v => by
      rw [World.frozen?_alloc_old _ _ _ (by simp [World.setCell]; omega), World.frozen?_setCell]; exact g1
    have k2 : ∀ o v, ((w3.alloc o).setCell ⟨w.heap.size, 0, none⟩ v).frozen? ⟨w.heap.size + 1, 0, none⟩ = false := fun o v => by
      rw [World.frozen?_setCell, World.frozen?_alloc_old _ _ _ (by simp only; omega)]; exact g1
    clear h0 hq1 hsh hB c0 c1 f0 f1 W2
    go_wp2_with fail
    have FW : ParseP s w (.returned (.tuple #[ptr w3.heap.size, .nilIface])) (((w3.alloc (.cells #[ptr q] 51)).setCell ⟨w.heap.size, 0, none⟩ (ptr w3.heap.size)).setCell ⟨w.heap.size + 1, 0, none⟩ .nilIface) := by
      obtain ⟨h0, hq1, hsh, hB⟩ := HH.out
      have hz : (((w3.alloc (.cells #[ptr q] 51)).setCell ⟨w.heap.size, 0, none⟩ (ptr w3.heap.size)).setCell ⟨w.heap.size + 1, 0, none⟩ .nilIface).heap.size = w3.heap.size + 1 := by simp [World.setCell]
      have hk : ∀ k, w2.heap.size ≤ k → (((w3.alloc (.cells #[ptr q] 51)).setCell ⟨w.heap.size, 0, none⟩ (ptr w3.heap.size)).setCell ⟨w.heap.size + 1, 0, none⟩ .nilIface).heap[k]? = (w3.alloc (.cells #[ptr q] 51)).heap[k]? := fun k hk => by
        rw [Below.heap_setCell _ _ _ _ (by simp only; omega), Below.heap_setCell _ _ _ _ (by simp only; omega)]
      refine .inl ⟨h0, w3.heap.size, q, rfl, by omega, by rw [hz]; omega, ?_, ?_, ?_⟩
      · rw [World.cell?_of_block (w := w3.alloc (.cells #[ptr q] 51)) (hk w3.heap.size (by omega)), World.cell?_alloc_at _ _ _ _ rfl]
        rfl
      · refine hsh.frame (by omega) (by rw [hz]; omega) (fun k k1 k2 => ?_)
        rw [hk k k1]
        exact Below.heap_alloc _ _ _ k2
      · exact (((b2.trans (hB.mono (by omega))).alloc (by omega) _).setCell (p := ⟨w.heap.size, 0, none⟩) (Nat.le_refl _) _).setCell (p := ⟨w.heap.size + 1, 0, none⟩) (Nat.le_succ _) _
    have cA : (((w3.alloc (.cells #[ptr q] 51)).setCell ⟨w.heap.size, 0, none⟩ (ptr w3.heap.size)).setCell ⟨w.heap.size + 1, 0, none⟩ .nilIface).cell? ⟨w.heap.size, 0, none⟩ = some (ptr w3.heap.size) := by
      rw [World.cell?_setCell_other _ _ _ _ (by intro e; simp only [Addr.mk.injEq, and_true] at e; omega)]
      exact World.cell?_setCell_same _ _ _ (e0 _)
    have cB : (((w3.alloc (.cells #[ptr q] 51)).setCell ⟨w.heap.size, 0, none⟩ (ptr w3.heap.size)).setCell ⟨w.heap.size + 1, 0, none⟩ .nilIface).cell? ⟨w.heap.size + 1, 0, none⟩ = some .nilIface := World.cell?_setCell_same _ _ _ (e2 _ _)
    have HFW : Hid _ := FW
    clear FW HH e0 e1 e2 k0 k1 k2 d0 d1 g0 g1
    generalize ((w3.alloc (.cells #[ptr q] 51)).setCell ⟨w.heap.size, 0, none⟩ (ptr w3.heap.size)).setCell ⟨w.heap.size + 1, 0, none⟩ .nilIface = W at *
    refine leaves_cons (f := 14) (args := #[.pointer (some ⟨w.heap.size, 0, none⟩), .pointer (some ⟨w.heap.size + 1, 0, none⟩)]) (by simp) (by simp [go_sem]) ?_
    refine (catch_idle _ _ _).mono ?_
    rintro e u' w'' ⟨rfl, rfl, rfl⟩
    simp [Leaves, settle, results, Tryz.results7, go_sem, cA, cB]
    exact HFW.out
  · have hqe := hq.e
    subst hqe
    have HH : Hid ((rread s).1.e ≠ 0 ∧ Thrown w2 (.panicked [{ v := .iface 69 (.pointer (some ⟨q, 0, none⟩)), recovered := false }]) w3 (rread s).1.e (rlineNo s (rread s).1) q) := ⟨h0, hq⟩
    have hB := hq.bel
    have d0 : w3.cell? ⟨w.heap.size, 0, none⟩ = some (.pointer none) := by rw [hB.cell (p := ⟨w.heap.size, 0, none⟩) (by simp only; omega)]; exact c0
    have d1 : w3.cell? ⟨w.heap.size + 1, 0, none⟩ = some .nilIface := by rw [hB.cell (p := ⟨w.heap.size + 1, 0, none⟩) (by simp only; omega)]; exact c1
    have g0 : w3.frozen? ⟨w.heap.size, 0, none⟩ = false := by rw [hB.frozen (p := ⟨w.heap.size, 0, none⟩) (by simp only; omega)]; exact f0
    have g1 : w3.frozen? ⟨w.heap.size + 1, 0, none⟩ = false := by rw [hB.frozen (p := ⟨w.heap.size + 1, 0, none⟩) (by simp only; omega)]; exact f1
    have hg3 : w3.cell? ⟨0, 0, none⟩ = some (.iface 91 (.agg #[.pointer (some ⟨7, 28, none⟩)])) := by rw [hB.cell (p := ⟨0, 0, none⟩) (by simp only; omega)]; exact Hg.out
    clear h0 hq hB c0 c1 f0 f1 W2
    refine leaves_cons (f := 14) (args := #[.pointer (some ⟨w.heap.size, 0, none⟩), .pointer (some ⟨w.heap.size + 1, 0, none⟩)]) (by simp) (by simp [go_sem]) ?_
    refine (catch_thrown w.heap.size (w.heap.size + 1) q (.pointer none) .nilIface _ hg3 d0 d1 g0 g1 (by omega)).mono ?_
    rintro e u' w'' ⟨rfl, rfl, w4, hB4, rfl⟩
    obtain ⟨h0, hq⟩ := HH.out
    have hB := hq.bel
    have z3 := hB.size
    have z4 := hB4.size
    have qge := hq.ge
    have qlt := hq.lt
    have cA : ((w4.setCell ⟨w.heap.size, 0, none⟩ (.pointer none)).setCell ⟨w.heap.size + 1, 0, none⟩ (.iface 69 (.pointer (some ⟨q, 0, none⟩)))).cell? ⟨w.heap.size, 0, none⟩ = some (.pointer none) := by
      rw [World.cell?_setCell_other _ _ _ _ (by intro e; simp only [Addr.mk.injEq, and_true] at e; omega)]
      exact World.cell?_setCell_same _ _ _ (by rw [hB4.cell (p := ⟨w.heap.size, 0, none⟩) (by simp only; omega)]; exact d0)
    have cB : ((w4.setCell ⟨w.heap.size, 0, none⟩ (.pointer none)).setCell ⟨w.heap.size + 1, 0, none⟩ (.iface 69 (.pointer (some ⟨q, 0, none⟩)))).cell? ⟨w.heap.size + 1, 0, none⟩ = some (.iface 69 (.pointer (some ⟨q, 0, none⟩))) := by
      refine World.cell?_setCell_same _ _ _ (u := .nilIface) ?_
      rw [World.cell?_setCell_other _ _ _ _ (by intro e; simp only [Addr.mk.injEq, and_true] at e; omega), hB4.cell (p := ⟨w.heap.size + 1, 0, none⟩) (by simp only; omega)]
      exact d1
    have hqk : ((w4.setCell ⟨w.heap.size, 0, none⟩ (.pointer none)).setCell ⟨w.heap.size + 1, 0, none⟩ (.iface 69 (.pointer (some ⟨q, 0, none⟩)))).heap[q]? = w3.heap[q]? := by
      rw [Below.heap_setCell _ _ _ _ (by simp only; omega), Below.heap_setCell _ _ _ _ (by simp only; omega)]
      exact hB4.block q qlt
    have FW : ParseP s w (.returned (.tuple #[.pointer none, .iface 69 (ptr q)])) ((w4.setCell ⟨w.heap.size, 0, none⟩ (.pointer none)).setCell ⟨w.heap.size + 1, 0, none⟩ (.iface 69 (.pointer (some ⟨q, 0, none⟩)))) := by
      refine .inr ⟨h0, q, rfl, by simp [World.setCell]; omega, (World.cell?_of_block (w := w3) hqk).trans hq.K, (World.cell?_of_block (w := w3) hqk).trans hq.L, ?_⟩
      exact (((b2.trans (hB.mono (by omega))).trans (hB4.mono (by omega))).setCell (p := ⟨w.heap.size, 0, none⟩) (Nat.le_refl _) _).setCell (p := ⟨w.heap.size + 1, 0, none⟩) (Nat.le_succ _) _
    have HFW : Hid _ := FW
    clear FW hqk
    generalize (w4.setCell ⟨w.heap.size, 0, none⟩ (.pointer none)).setCell ⟨w.heap.size + 1, 0, none⟩ (.iface 69 (.pointer (some ⟨q, 0, none⟩))) = W at *
    simp [Leaves, settle, results, Tryz.results7, go_sem, cA, cB]
    exact HFW.out
end Go.Proofs.YtmofaleglnihaaaGreatDoor

namespace Go.Proofs.YtmofaleglnihaaaGreatDoor
open Go.ChangeShapes Go.WideShapes Go.ChangeAt Go.RowKit
set_option linter.unusedVariables false
set_option linter.unusedSimpArgs false

theorem assert_fault (v : Value) (w : World) : (Instr.typeAssert (.iface 69 v) 28 69 true).run Tryz.prog w = .ok (.tuple #[v, .bool true]) w := by kernel_rfl
theorem told_nil (w : World) : Calls Tryz.prog 12 #[.nilIface] w fun e w' => e = .returned (.tuple #[.int .i64 0, .int .i64 0]) ∧ w' = w := by
  go_enter Tryz.func12, Tryz.ntmps12
  go_wp2
  go_ret2
  exact ⟨rfl, rfl⟩
theorem told_fault (q k l : Nat) (w : World) (h0 : w.cell? ⟨q, 0, none⟩ = some (.int .i64 k)) (h1 : w.cell? ⟨q, 1, none⟩ = some (.int .i64 l)) :
    Calls Tryz.prog 12 #[.iface 69 (.pointer (some ⟨q, 0, none⟩))] w fun e w' => e = .returned (.tuple #[.int .i64 k, .int .i64 l]) ∧ ∃ n, w' = w.drewN n := by
  have hta := assert_fault
  go_enter Tryz.func12, Tryz.ntmps12
  go_wp2
  go_quiet (fail)
  go_wp2
  go_ret2
  exact ⟨rfl, _, rfl⟩

theorem rread_hp (s : ByteArray) : (rread s).1.e = 1 ∨ (rread s).1.e = 0 ∨ ((rread s).1.p ≤ s.size ∧ s.size ≤ 4000) := by
  by_cases h4 : 4000 < s.size
  · left
    unfold rread
    rw [if_pos h4, rno_on _ _ _ rfl]
    have : ∀ n, rbytes s n ⟨0, 1, 0⟩ = ⟨0, 1, 0⟩ := by
      intro n
      induction n with
      | zero => rfl
      | succ n ih =>
        unfold rbytes
        rw [ih]
        split
        · rfl
        · exact rno_off _ _ _ (by decide)
    rw [this, loop_off _ _ _ _ (by decide)]
  · have hr : ErrIn s (rread s).1 := by
      unfold rread
      rw [if_neg h4]
      refine e_readLoop (fun items x hi => (gd_line items hi).1) _ _ _ ?_ ?_
      · rcases bytes_first s s.size (Nat.le_refl _) with ⟨h1, _⟩ | ⟨i, h1, _, _, h3⟩
        · rw [h1]; exact ⟨Nat.zero_le _, fun _ => Nat.zero_le _⟩
        · rw [h3]; exact ⟨Nat.zero_le _, fun q => absurd q (by simp)⟩
      · rcases bytes_first s s.size (Nat.le_refl _) with ⟨h1, _⟩ | ⟨i, h1, _, _, h3⟩
        · rw [h1]; exact fun q => absurd rfl q
        · rw [h3]; exact fun _ => ⟨by simp, by show i ≤ s.size; omega⟩
    by_cases h0 : (rread s).1.e = 0
    · exact .inr (.inl h0)
    · exact .inr (.inr ⟨(hr h0).2, by omega⟩)

/-- Both Docs, as they lie. -/
def Both (s : ByteArray) (w0 w : World) (o : Nat) : Prop :=
  ∃ d r q it cs, w.cell? ⟨o, 0, none⟩ = some (ptr d) ∧ w.cell? ⟨o, 1, none⟩ = some (ptr r) ∧ w.cell? ⟨d, 0, none⟩ = some (ptr q) ∧ SheetOk w0 w q (rread s).2 ∧ RD w r s (rread s).1 it ∧ Its w r it cs (rread s).2 ∧ w0.heap.size ≤ d ∧ d < r ∧ r < o ∧ o < w.heap.size
def ParsedP (s : ByteArray) (w : World) (e : Ending) (w' : World) : Prop :=
  ((rread s).1.e = 0 ∧ ∃ o, e = .returned (.tuple #[ptr o, .bool true]) ∧ Both s w w' o ∧ Below w.heap.size w w') ∨ ((rread s).1.e ≠ 0 ∧ e = .returned (.tuple #[.pointer none, .bool true]) ∧ Below w.heap.size w w')

set_option maxHeartbeats 2000000 in
theorem parsed_any (s : ByteArray) (w : World) (m : Int) (hs63 : s.size ≤ 4611686018427387904) (hm : w.cell? ⟨1, 0, none⟩ = some (.int .i64 m))
    (hg : w.cell? ⟨0, 0, none⟩ = some (.iface 91 (.agg #[.pointer (some ⟨7, 28, none⟩)]))) :
    Calls Tryz.prog 6 #[.string s] w fun e w' => ParsedP s w e w' := by
  have Hm : Hid _ := hm
  have Hg : Hid _ := hg
  have HHP : Hid _ := rread_hp s
  clear hm hg
  go_enter Tryz.func6, Tryz.ntmps6
  go_wp2_with fail
  refine (parse_any s _ m hs63 Hm.out Hg.out).mono ?_
  rintro e w1 (⟨h0, d, q, rfl, d1, d2, d3, hsh, hB1⟩ | ⟨h0, q, rfl, q1, q2, q3, hB1⟩)
  · have HA : Hid (w.heap.size ≤ d ∧ d < w1.heap.size ∧ w1.cell? ⟨d, 0, none⟩ = some (ptr q) ∧ SheetOk w w1 q (rread s).2 ∧ Below w.heap.size w w1) := ⟨d1, d2, d3, hsh, hB1⟩
    have hz1 := hB1.size
    have H0 : Hid ((rread s).1.e = 0) := h0
    clear d1 d2 d3 hsh hB1 h0
    go_wp2_with fail
    refine (told_nil _).mono ?_
    rintro e w2 ⟨rfl, hw2⟩
    rw [hw2]
    clear hw2 w2
    go_wp2_with fail
    refine (read_all s _ hs63).mono ?_
    rintro e w3 ⟨it, cs, rfl, hrd, hits, hB3⟩
    have HR : Hid (RD w3 w1.heap.size s (rread s).1 it ∧ Its w3 w1.heap.size it cs (rread s).2 ∧ Below w1.heap.size w1 w3) := ⟨hrd, hits, hB3⟩
    have hE3 : w3.cell? ⟨w1.heap.size, 2, none⟩ = some (.int .i64 0) := by
      have := hrd.E
      rw [H0.out] at this
      exact this
    have hlt3 := hrd.lt
    have hL : Hid (rlineNo s (rread s).1 = 0) := by unfold Hid rlineNo; rw [if_pos (.inr H0.out)]
    clear hrd hits hB3
    go_wp2_with fail
    refine (line_no w1.heap.size s (rread s).1 it _ HR.out.1 HHP.out).mono ?_
    rintro e w4 ⟨rfl, k4, rfl⟩
    rw [hL.out]
    have hE4 : (w3.drewN k4).cell? ⟨w1.heap.size, 2, none⟩ = some (.int .i64 0) := hE3
    have HR4 : Hid (RD (w3.drewN k4) w1.heap.size s (rread s).1 it ∧ Its (w3.drewN k4) w1.heap.size it cs (rread s).2 ∧ Below w1.heap.size w1 (w3.drewN k4)) :=
      ⟨HR.out.1.drewN k4, HR.out.2.1.kb ((Kb.refl _ _).drewN k4), HR.out.2.2.trans (((Kb.refl w1.heap.size w3).drewN k4).bel hlt3)⟩
    have hlt4 : w1.heap.size < (w3.drewN k4).heap.size := hlt3
    clear HR hE3
    generalize w3.drewN k4 = w4 at *
    go_wp2_with fail
    go_ret2
    obtain ⟨d1, d2, d3, hsh, hB1⟩ := HA.out
    obtain ⟨hrd, hits, hB4⟩ := HR4.out
    refine .inl ⟨H0.out, _, rfl, ⟨d, w1.heap.size, q, it, cs, ?_, ?_, ?_, ?_, hrd.alloc _, hits.alloc _, d1, d2, hlt4, by simp⟩, ?_⟩
    · rw [World.cell?_alloc_at _ _ _ _ rfl]; rfl
    · rw [World.cell?_alloc_at _ _ _ _ rfl]; rfl
    · rw [World.cell?_alloc_lt _ _ ⟨d, 0, none⟩ (by simp only; omega), hB4.cell (p := ⟨d, 0, none⟩) d2]; exact d3
    · exact hsh.frame (Nat.le_refl _) (by simp; omega) (fun k k1 k2 => (Below.heap_alloc _ _ _ (by omega)).trans (hB4.block k k2))
    · exact (hB1.trans (hB4.mono hz1)).alloc (by omega) _
  · have HB1 : Hid (Below w.heap.size w w1) := hB1
    have hz1 := hB1.size
    have H0 : Hid ((rread s).1.e ≠ 0) := h0
    have H2 : Hid (w1.cell? ⟨q, 0, none⟩ = some (.int .i64 (rread s).1.e) ∧ w1.cell? ⟨q, 1, none⟩ = some (.int .i64 (rlineNo s (rread s).1))) := ⟨q2, q3⟩
    clear q1 q2 q3 hB1 h0
    go_wp2_with fail
    refine (told_fault q _ _ _ H2.out.1 H2.out.2).mono ?_
    rintro e w2 ⟨rfl, k2, rfl⟩
    have HB2 : Hid (Below w.heap.size w (w1.drewN k2)) := HB1.out.trans ⟨rfl, rfl, rfl, Nat.le_refl _, fun _ _ => rfl⟩
    have hz2 : w.heap.size ≤ (w1.drewN k2).heap.size := hz1
    clear H2 HB1
    generalize w1.drewN k2 = w2 at *
    go_wp2_with fail
    refine (read_all s _ hs63).mono ?_
    rintro e w3 ⟨it, cs, rfl, hrd, hits, hB3⟩
    have HR : Hid (RD w3 w2.heap.size s (rread s).1 it ∧ Below w.heap.size w w3) := ⟨hrd, HB2.out.trans (hB3.mono hz2)⟩
    have hE3 := hrd.E
    clear hrd hits hB3
    have te1 : (((rread s).1.e : Int) != ((rread s).1.e : Int)) = false := by simp
    have tl1 : ((rlineNo s (rread s).1 : Int) != (rlineNo s (rread s).1 : Int)) = false := by simp
    have te0 : (((rread s).1.e : Int) != 0) = true := by have := H0.out; simp; omega
    have FZ : Hid (∀ w4, Below w.heap.size w w4 → ParsedP s w (.returned (.tuple #[.pointer none, .bool true])) w4) := fun w4 hB => .inr ⟨H0.out, rfl, hB⟩
    generalize (rread s).1 = x at *
    go_wp2_with fail
    refine (line_no w2.heap.size s x it _ HR.out.1 HHP.out).mono ?_
    rintro e w4 ⟨rfl, k4, rfl⟩
    have hE4 : (w3.drewN k4).cell? ⟨w2.heap.size, 2, none⟩ = some (.int .i64 x.e) := hE3
    have HB4 : Hid (Below w.heap.size w (w3.drewN k4)) := HR.out.2.trans ⟨rfl, rfl, rfl, Nat.le_refl _, fun _ _ => rfl⟩
    clear HR hE3 HHP
    generalize w3.drewN k4 = w4 at *
    go_wp2_with fail
    go_ret2
    exact FZ.out _ HB4.out

theorem parses_any (s : ByteArray) (w : World) (m : Int) (hs63 : s.size ≤ 4611686018427387904) (hm : w.cell? ⟨1, 0, none⟩ = some (.int .i64 m))
    (hg : w.cell? ⟨0, 0, none⟩ = some (.iface 91 (.agg #[.pointer (some ⟨7, 28, none⟩)]))) :
    Calls Tryz.prog 3 #[.string s] w fun e w' => e = .returned (.bool true) ∧ Below w.heap.size w w' := by
  have Hm : Hid _ := hm
  have Hg : Hid _ := hg
  clear hm hg
  go_enter Tryz.func3, Tryz.ntmps3
  go_wp2_with fail
  refine (parsed_any s _ m hs63 Hm.out Hg.out).mono ?_
  rintro e w1 (⟨h0, o, rfl, hb, hB⟩ | ⟨h0, rfl, hB⟩)
  · have HB : Hid (Below w.heap.size w w1) := hB
    clear h0 hb hB
    go_wp2_with fail
    go_ret
    exact ⟨rfl, HB.out⟩
  · have HB : Hid (Below w.heap.size w w1) := hB
    clear h0 hB
    go_wp2_with fail
    go_ret
    exact ⟨rfl, HB.out⟩
end Go.Proofs.YtmofaleglnihaaaGreatDoor
