import Derived.Test.YtdebjhdafnpfkabGreatDoorK14
import Derived.Test.YtdebjhdafnpfkabGreatDoorK02
import Derived.Test.YtdebjhdafnpfkabGreatDoorK09
import Derived.Test.YtdebjhdafnpfkabGreatDoorK07
import Derived.Deep.RegionWith
namespace Go.Proofs.YtdebjhdafnpfkabGreatDoor
open Go.ChangeShapes Go.WideShapes Go.ChangeAt Go.RowKit
set_option linter.unusedVariables false
set_option linter.unusedSimpArgs false
def bareIt (k : Nat) : It := ⟨k, [], [], V0, ⟨#[]⟩⟩
theorem bare_ok {s : ByteArray} {b : Nat} {w : World} {x : St} {items : List It} (he : x.e = 0) (h : PS w b s x.a items) (k : Nat) (hk : k = 32 ∨ k = 35) :
    EntOk s b w (w.alloc (.cells #[.string ⟨#[]⟩, .bool false] 122)) x items (bareIt k) (.iface 120 (ptr w.heap.size)) := by
  obtain ⟨hpc, hok, hlen, nb, hv, pv, ev, es, hpt⟩ := h
  refine ⟨he, hpc.alloc _, (Below.refl _ _).alloc (Nat.le_of_lt hpc.lt) _, (fun q => absurd (show k = 91 from q) (by omega)), (fun q => absurd (show k = 61 from q) (by omega)), nb, hv, pv, ev, es, (fun j => j = w.heap.size), ?_, ?_, ?_, (fun j hj => by rw [show j = w.heap.size from hj]; exact hpt.bnd)⟩
  · rw [rtable_snoc, hdrs_snoc, prs_snoc, if_neg (show ¬ (bareIt k).k = 91 by show ¬ k = 91; omega), if_neg (show ¬ (bareIt k).k = 91 by show ¬ k = 91; omega), if_neg (show ¬ (bareIt k).k = 61 by show ¬ k = 61; omega)]
    exact hpt.alloc hpc.lt _
  · rintro j rfl
    refine ⟨hpc.lt, by simp, fun hk => ?_, fun hk => ?_, fun hk => ?_⟩
    · have := (hpt.o4.lt _ hk).2; omega
    · have := (hpt.o5.lt _ hk).2; omega
    · have := (hpt.o6.lt _ hk).2; omega
  · refine ⟨w.heap.size, rfl, ?_, ?_, fun o => froz_new _ _ _ _ _ rfl, .inr (.inr ⟨hk, rfl⟩)⟩
    · rw [World.cell?_alloc_at _ _ _ _ rfl]; rfl
    · rw [World.cell?_alloc_at _ _ _ _ rfl]; rfl
/-- What readEntry comes to. -/
def EntP (b : Nat) (s : ByteArray) (items : List It) (x : St) (w : World) (e : Ending) (w' : World) : Prop :=
  (bt s x.a = 91 ∨ letterB (bt s x.a) = true) ∧ ((∃ t q, e = .returned (.iface t (ptr q)) ∧ EntOk s b w w' (ritem s items x).1 items (ritem s items x).2 (.iface t (ptr q))) ∨ PBad s b w e w' (ritem s items x).1) ∨
  (¬ (bt s x.a = 91 ∨ letterB (bt s x.a) = true) ∧ ∃ t q, e = .returned (.iface t (ptr q)) ∧ ∀ k, k = 32 ∨ k = 35 → EntOk s b w w' x items (bareIt k) (.iface t (ptr q)))
theorem PS.drewN {w : World} {b : Nat} {s : ByteArray} {a : Nat} {items : List It} (h : PS w b s a items) (n : Nat) : PS (w.drewN n) b s a items :=
  ⟨h.pc.drewN n, h.ok, h.len, h.pt.elim fun nb ⟨hv, pv, ev, es, hpt⟩ => ⟨nb, hv, pv, ev, es, hpt.kc ((Kc.refl _ _).drewN n)⟩⟩
theorem EntOk.pre {s : ByteArray} {b : Nat} {w w0 w' : World} {y : St} {items : List It} {t : It} {v : Value} (h : EntOk s b w0 w' y items t v) (hb : Below b w w0) : EntOk s b w w' y items t v :=
  ⟨h.e, h.pc, hb.trans h.bel, h.h, h.p, h.pt⟩
set_option maxHeartbeats 2000000 in
theorem readEntry_any (b : Nat) (s : ByteArray) (items : List It) (x : St) (w : World) (m : Int) (hs : s.size ≤ 4000) (he : x.e = 0) (ha : x.a ≤ s.size) (hG : 1 < b)
    (hm : w.cell? ⟨1, 0, none⟩ = some (.int .i64 m)) (h : PS w b s x.a items) :
    Calls Tryz.prog 46 #[.pointer (some ⟨b, 0, none⟩)] w fun e w' => EntP b s items x w e w' := by
  have h' : Hid (PS w b s x.a items) := h
  have HE : Hid (x.e = 0) := he
  have Hm : Hid _ := hm
  have hlt := h.pc.lt
  clear h he hm
  have hD : Hid (∀ n, Below b w (w.drewN n)) := fun n => ((Kb.refl b w).drewN n).bel hlt
  by_cases h91 : bt s x.a = 91
  · have t1 : ((bt s x.a : Int) == 91) = true := by simp; omega
    have H91 : Hid (bt s x.a = 91) := h91
    clear h91
    go_enter Tryz.func46, Tryz.ntmps46
    go_wp2_with fail
    refine (peek_any b s x.a _ hs ha h'.out.pc).mono ?_
    rintro e w1 ⟨rfl, k1, rfl⟩
    go_wp2_with fail
    refine (readHeader_any b s items x _ hs HE.out H91.out (h'.out.drewN k1)).mono ?_
    rintro e w2 (⟨q, rfl, hok⟩ | ⟨hb1, q, hq⟩)
    · have hok' : Hid _ := hok
      clear hok
      go_wp2_with fail
      go_ret
      exact .inl ⟨.inl H91.out, .inl ⟨_, _, rfl, hok'.out.pre (hD.out k1)⟩⟩
    · have he' := hq.e
      subst he'
      exact ⟨rfl, .inl ⟨.inl H91.out, .inr ⟨hb1, q, hq.trans ((Kb.refl _ _).drewN k1)⟩⟩⟩
  · have t1 : ((bt s x.a : Int) == 91) = false := by simp; omega
    cases hl : letterB (bt s x.a)
    · have N : Hid (¬ (bt s x.a = 91 ∨ letterB (bt s x.a) = true)) := by
        rintro (q | q)
        · exact h91 q
        · rw [hl] at q; cases q
      clear h91
      go_enter Tryz.func46, Tryz.ntmps46
      go_wp2_with fail
      refine (peek_any b s x.a _ hs ha h'.out.pc).mono ?_
      rintro e w1 ⟨rfl, k1, rfl⟩
      go_wp2_with fail
      refine (isOfName_any _ _ (bt_lt _ _)).mono ?_
      rintro e w2 ⟨rfl, hw2⟩
      rw [hw2, hl]
      clear hw2
      have HS : Hid (PS (w.drewN k1) b s x.a items) := h'.out.drewN k1
      have HB : Hid (Below b w (w.drewN k1)) := hD.out k1
      generalize w.drewN k1 = w1 at *
      go_wp2_with fail
      go_ret
      exact .inr ⟨N.out, _, _, rfl, fun k hk => (bare_ok HE.out HS.out k hk).pre HB.out⟩
    · have H91 : Hid (bt s x.a ≠ 91) := h91
      have HL : Hid (letterB (bt s x.a) = true) := hl
      clear h91
      go_enter Tryz.func46, Tryz.ntmps46
      go_wp2_with fail
      refine (peek_any b s x.a _ hs ha h'.out.pc).mono ?_
      rintro e w1 ⟨rfl, k1, rfl⟩
      go_wp2_with fail
      refine (isOfName_any _ _ (bt_lt _ _)).mono ?_
      rintro e w2 ⟨rfl, hw2⟩
      rw [hw2, HL.out]
      clear hw2
      go_wp2_with fail
      refine (readPair_any b s items x (w.drewN k1) m hs HE.out ha H91.out hG Hm.out (h'.out.drewN k1)).mono ?_
      rintro e w2 (⟨q, rfl, hok⟩ | ⟨hb1, q, hq⟩)
      · have hok' : Hid _ := hok
        clear hok
        go_wp2_with fail
        go_ret
        exact .inl ⟨.inr HL.out, .inl ⟨_, _, rfl, hok'.out.pre (hD.out k1)⟩⟩
      · have he' := hq.e
        subst he'
        exact ⟨rfl, .inl ⟨.inr HL.out, .inr ⟨hb1, q, hq.trans ((Kb.refl _ _).drewN k1)⟩⟩⟩
end Go.Proofs.YtdebjhdafnpfkabGreatDoor

namespace Go.Proofs.YtdebjhdafnpfkabGreatDoor
open Go.ChangeShapes Go.WideShapes Go.ChangeAt Go.RowKit
set_option linter.unusedVariables false
set_option linter.unusedSimpArgs false
theorem take_isInLine (b : Nat) (s : ByteArray) (a : Nat) (w : World) (hs : s.size ≤ 4000) (ha : a ≤ s.size) (h : PC w b s a) :
    Calls Tryz.prog 42 #[.pointer (some ⟨b, 0, none⟩), .func (.func 49) #[] #[]] w fun e w' =>
      e = .returned (.string (s.extract a (scan (inLine) s a))) ∧ PC w' b s (scan (inLine) s a) ∧ Kc b w w' := by
  have hA := h.A
  have h' : Hid (PC w b s a) := h
  clear h
  go_enter Tryz.func42, Tryz.ntmps42
  go_wp2
  go_loopw [] (fun wr => ∃ a' : Nat, Hid (PC wr b s a') ∧ Kc b w wr ∧ Hid (scan (inLine) s a = scan (inLine) s a') ∧ a ≤ a' ∧ a' ≤ s.size) (fun wr => s.size - atOf wr b)
  case atStart => exact ⟨a, h', Kc.refl _ _, rfl, Nat.le_refl _, ha⟩
  case round =>
    clear h' hA
    obtain ⟨a', h1, hk, hsc, ha1, ha'⟩ := hrel
    obtain ⟨hT, hA, hL, hF, hlt⟩ := h1.out
    by_cases hl : a' < s.size
    · have hd : decide (a' = s.size) = false := by simp; omega
      have hbt := bt_in s a' hl
      cases hb : (inLine) (bt s a')
      · have hfin : Hid (scan (inLine) s a = a') := by
          unfold Hid
          rw [hsc.out, scan_stop _ _ _ (fun _ => hb)]
        go_wp2
        go_quiet (first | (go_at_call 29; exact Calls.quiet_of (done_any b s a' _ hs ha' (h1.out.drewN _))) | (go_at_call 49; exact Calls.quiet_of_same (isInLine_any _ _ (bt_lt _ _))))
        go_wp2
        go_quiet (fail)
        go_wp2
        go_ret
        exact ⟨ret_str' (by rw [hfin.out]), by rw [hfin.out]; exact (h1.out.drewN _).drewN _, (hk.drewN _).drewN _⟩
      · have hst : Hid (scan (inLine) s a' = scan (inLine) s (a' + 1)) := scan_step _ _ _ hl hb
        go_wp2
        go_quiet (first | (go_at_call 29; exact Calls.quiet_of (done_any b s a' _ hs ha' (h1.out.drewN _))) | (go_at_call 49; exact Calls.quiet_of_same (isInLine_any _ _ (bt_lt _ _))))
        go_wp2_with fail
        refine (step_any b s a' _ hs hl (h1.out.drewN _)).mono ?_
        rintro e w1 ⟨rfl, h2, hk2⟩
        have h2' : Hid (PC w1 b s (a' + 1)) := h2
        clear h2
        go_wp2
        go_roundw
        case rel => exact ⟨a' + 1, h2', (hk.drewN _).trans hk2, hsc.out.trans hst.out, by omega, by omega⟩
        case measure => rw [h2'.out.atOf, h1.out.atOf]; omega
    · have e1 : a' = s.size := by omega
      have hd : decide (a' = s.size) = true := by simp; omega
      have hfin : Hid (scan (inLine) s a = a') := by
        unfold Hid
        rw [hsc.out, scan_stop _ _ _ (fun h => absurd h hl)]
      have H : Hid (a' = s.size) := e1
      clear e1
      go_wp2
      go_quiet ((go_at_call 29; exact Calls.quiet_of (done_any b s a' _ hs ha' (h1.out.drewN _))))
      go_wp2
      go_quiet (fail)
      go_wp2
      go_ret
      exact ⟨ret_str' (by rw [hfin.out]), by rw [hfin.out]; exact (h1.out.drewN _).drewN _, (hk.drewN _).drewN _⟩
end Go.Proofs.YtdebjhdafnpfkabGreatDoor

namespace Go.Proofs.YtdebjhdafnpfkabGreatDoor
open Go.ChangeShapes Go.WideShapes Go.ChangeAt Go.RowKit
set_option linter.unusedVariables false
theorem owns_some {w : World} {base : Nat} {e : TypeId} {ad : Option Addr} {n cap : Nat} {xs : List Value} (h : w.ownsRow base e 1 (.slice ad n cap) n xs) (hn : 0 < n) : ∃ g, ad = some ⟨g, 0, none⟩ ∧ base ≤ g ∧ g < w.heap.size := by
  rcases h.2 with ⟨h1, h2⟩ | ⟨g, c, cur, h1, h2, h3, _⟩
  · omega
  · simp only [Value.slice.injEq] at h1
    exact ⟨g, h1.1, h2, (Array.getElem?_eq_some_iff.1 h3).1⟩
end Go.Proofs.YtdebjhdafnpfkabGreatDoor

namespace Go.Proofs.YtdebjhdafnpfkabGreatDoor
open Go.ChangeShapes Go.WideShapes Go.ChangeAt Go.RowKit
set_option linter.unusedVariables false
theorem row_cell {w : World} {base : Nat} {ad : Option Addr} {n cap : Nat} {l : List ByteArray} (h : w.ownsRow base 9 1 (.slice ad n cap) n (l.map .string)) (k : Nat) (hk : k < l.length) :
    ∃ g, ad = some ⟨g, 0, none⟩ ∧ w.cell? ⟨g, k, none⟩ = some (.string l[k]) := by
  have hn : n = l.length := by have := h.1; simp at this; omega
  subst hn
  obtain ⟨g, hg, _, _⟩ := owns_some h (by omega)
  subst hg
  refine ⟨g, rfl, ?_⟩
  rw [h.cellAt k (by omega)]
  simp [hk]
end Go.Proofs.YtdebjhdafnpfkabGreatDoor

namespace Go.Proofs.YtdebjhdafnpfkabGreatDoor
open Go.ChangeShapes Go.WideShapes Go.ChangeAt Go.RowKit
set_option linter.unusedVariables false
/-- An item that is being put together. -/
structure XN (w : World) (q k : Nat) (pv fv : Value) (vo : Option Addr) (r : ByteArray) : Prop where
  c0 : w.cell? ⟨q, 0, none⟩ = some (.int .u8 k)
  c1 : w.cell? ⟨q, 1, none⟩ = some pv
  c2 : w.cell? ⟨q, 2, none⟩ = some fv
  c3 : w.cell? ⟨q, 3, none⟩ = some (.pointer vo)
  c4 : w.cell? ⟨q, 4, none⟩ = some (.string r)
  F : ∀ o, w.frozen? ⟨q, o, none⟩ = false
  lt : q < w.heap.size
theorem XN.of_block {w w' : World} {q k : Nat} {pv fv : Value} {vo : Option Addr} {r : ByteArray} (h : XN w q k pv fv vo r) (hb : w'.heap[q]? = w.heap[q]?) (hz : w.heap.size ≤ w'.heap.size) : XN w' q k pv fv vo r :=
  ⟨(World.cell?_of_block (w := w) hb).trans h.c0, (World.cell?_of_block (w := w) hb).trans h.c1, (World.cell?_of_block (w := w) hb).trans h.c2, (World.cell?_of_block (w := w) hb).trans h.c3,
   (World.cell?_of_block (w := w) hb).trans h.c4, fun o => (World.frozen?_of_block (w := w) hb).trans (h.F o), Nat.lt_of_lt_of_le h.lt hz⟩
theorem XN.kb {b : Nat} {w w' : World} {q k : Nat} {pv fv : Value} {vo : Option Addr} {r : ByteArray} (h : XN w q k pv fv vo r) (hk : Kb b w w') (hb : q ≠ b) : XN w' q k pv fv vo r := h.of_block (hk.block q h.lt hb) hk.size
theorem XN.below {B : Nat} {w w' : World} {q k : Nat} {pv fv : Value} {vo : Option Addr} {r : ByteArray} (h : XN w q k pv fv vo r) (hk : Below B w w') (hb : q < B) : XN w' q k pv fv vo r := h.of_block (hk.block q hb) hk.size
theorem XN.drewN {w : World} {q k : Nat} {pv fv : Value} {vo : Option Addr} {r : ByteArray} (h : XN w q k pv fv vo r) (n : Nat) : XN (w.drewN n) q k pv fv vo r := by
  induction n with
  | zero => exact h
  | succ n ih => exact ⟨ih.c0, ih.c1, ih.c2, ih.c3, ih.c4, ih.F, ih.lt⟩
theorem XN.alloc {w : World} {q k : Nat} {pv fv : Value} {vo : Option Addr} {r : ByteArray} (h : XN w q k pv fv vo r) (o : Obj) : XN (w.alloc o) q k pv fv vo r := h.of_block (Below.heap_alloc _ _ _ h.lt) (by simp)
theorem RowIn.kb {b : Nat} {w w' : World} {lo hi : Nat} {e : TypeId} {v : Value} {xs : List Value} (h : RowIn w lo hi e v xs) (hk : Kb b w w') (hb : b < lo) (hz : hi ≤ w.heap.size) : RowIn w' lo hi e v xs :=
  h.frame (fun k k1 k2 => hk.block k (by omega) (by omega))
theorem RowIn.set {w : World} {lo hi : Nat} {e : TypeId} {v : Value} {xs : List Value} (h : RowIn w lo hi e v xs) (q o : Nat) (u : Value) (hq : q < lo) : RowIn (w.setCell ⟨q, o, none⟩ u) lo hi e v xs :=
  h.frame (fun k k1 _ => Below.heap_setCell _ _ _ _ (by simp only; omega))
end Go.Proofs.YtdebjhdafnpfkabGreatDoor

namespace Go.Proofs.YtdebjhdafnpfkabGreatDoor
open Go.ChangeShapes Go.WideShapes Go.ChangeAt Go.RowKit
set_option linter.unusedVariables false
theorem gd_item {s : ByteArray} {x : St} (items : List It) (h : Inv s x) : Gd s x (ritem s items x).1 := by
  unfold ritem
  split
  · rename_i hr
    have h1 := gd_must (gd_blanks (gd_path (gd_blanks (gd_step (Gd.refl h) hr) false)) false) 93
    exact gd_ite (gd_no h1 (by decide)) h1
  · have h1 := gd_f (gd_val 7 0) (gd_blanks (gd_must (gd_blanks (gd_path (Gd.refl h)) false) 61) false)
    exact gd_ite (gd_no h1 (by decide)) h1
/-- A line's header, pair or nothing, and the remark behind it. -/
def rbody (s : ByteArray) (items : List It) (x : St) : St × It := if ris s x 35 = true then (x, ⟨35, [], [], V0, ⟨#[]⟩⟩) else (rblanks s (ritem s items x).1 false, (ritem s items x).2)
def rnote (s : ByteArray) (r : St × It) : St × It := if ris s r.1 35 = true then (⟨scan inLine s r.1.a, r.1.e, r.1.p⟩, ⟨r.2.k, r.2.path, r.2.full, r.2.v, s.extract r.1.a (scan inLine s r.1.a)⟩) else r
theorem rline_eq (s : ByteArray) (items : List It) (x : St) : rline s items x = if s.size ≤ (rblanks s x false).a ∨ bt s (rblanks s x false).a = 10 then (rblanks s x false, ⟨32, [], [], V0, ⟨#[]⟩⟩) else rnote s (rbody s items (rblanks s x false)) := rfl
theorem gd_note {s : ByteArray} {x : St} {r : St × It} (h : Gd s x r.1) : Gd s x (rnote s r).1 := by
  unfold rnote
  split
  · exact gd_scan h _
  · exact h
theorem gd_body {s : ByteArray} {x : St} (items : List It) (h : Inv s x) : Gd s x (rbody s items x).1 := by
  unfold rbody
  split
  · exact Gd.refl h
  · exact gd_blanks (gd_item items h) false
theorem gd_line {s : ByteArray} {x : St} (items : List It) (h : Inv s x) : Gd s x (rline s items x).1 := by
  rw [rline_eq]
  have h1 := gd_blanks (Gd.refl h) false
  split
  · exact h1
  · exact gd_note (h1.trans (gd_body items h1.1))
end Go.Proofs.YtdebjhdafnpfkabGreatDoor

namespace Go.Proofs.YtdebjhdafnpfkabGreatDoor
open Go.ChangeShapes Go.WideShapes Go.ChangeAt Go.RowKit
set_option linter.unusedVariables false
set_option linter.unusedSimpArgs false
theorem takeRemark_any (q : Nat) (r : ByteArray) (u0 u1 : Value) (w : World) (h0 : w.cell? ⟨q, 0, none⟩ = some u0) (h1 : w.cell? ⟨q, 1, none⟩ = some u1) (hF : ∀ o, w.frozen? ⟨q, o, none⟩ = false) :
    Calls Tryz.prog 158 #[.pointer (some ⟨q, 0, none⟩), .string r] w fun e w' => e = .returned (.tuple #[]) ∧ w' = (w.setCell ⟨q, 0, none⟩ (.string r)).setCell ⟨q, 1, none⟩ (.bool true) := by
  have h1' : (w.setCell ⟨q, 0, none⟩ (.string r)).cell? ⟨q, 1, none⟩ = some u1 := (cell_set_off _ _ _ _ _ (by omega)).trans h1
  have hF' : ∀ o, (w.setCell ⟨q, 0, none⟩ (.string r)).frozen? ⟨q, o, none⟩ = false := fun o => (World.frozen?_setCell _ _ _ _).trans (hF o)
  go_enter Tryz.func158, Tryz.ntmps158
  go_wp2
  go_returns
  exact ⟨rfl, rfl⟩
/-- What is wrong was told, at the face of the reader. -/
def QBad (s : ByteArray) (b : Nat) (w : World) (e : Ending) (w' : World) (y : St) : Prop := y.e ≠ 0 ∧ ∃ q, e = .panicked [{ v := .iface 50 (.pointer (some ⟨q, 0, none⟩)), recovered := false }] ∧ b < q ∧ q < w'.heap.size ∧
  w'.cell? ⟨q, 0, none⟩ = some (.int .i64 y.e) ∧ w'.cell? ⟨q, 1, none⟩ = some (.int .i64 (lineAt s y.p)) ∧ Below b w w'
theorem QBad.of {s : ByteArray} {b : Nat} {w w1 w' : World} {e : Ending} {y z : St} (h : PBad s b w1 e w' y) (hb : b < w1.heap.size) (k : Below b w w1) (he : z.e = y.e) (hp : z.p = y.p) : QBad s b w e w' z := by
  obtain ⟨h1, q, hq⟩ := h
  refine ⟨by rw [he]; exact h1, q, hq.e, Nat.lt_of_lt_of_le hb hq.ge, hq.lt, by rw [he]; exact hq.K, by rw [hp]; exact hq.L, k.trans (hq.kb.bel hb)⟩
/-- Behind a line. -/
def lineZ (s : ByteArray) (items : List It) (x : St) : St := if (rline s items x).1.e = 0 ∧ (rline s items x).1.a < s.size then rmust s (rline s items x).1 10 else (rline s items x).1
theorem meth_hdr (q : Nat) (w : World) : (Go.method 361 124 (.pointer (some ⟨q, 0, none⟩)) "TakeRemark").run Tryz.prog w = .ok (158, .pointer (some ⟨q, 0, none⟩)) w := by kernel_rfl
theorem meth_pair (q : Nat) (w : World) : (Go.method 361 61 (.pointer (some ⟨q, 0, none⟩)) "TakeRemark").run Tryz.prog w = .ok (158, .pointer (some ⟨q, 0, none⟩)) w := by kernel_rfl
theorem meth_bare (q : Nat) (w : World) : (Go.method 361 120 (.pointer (some ⟨q, 0, none⟩)) "TakeRemark").run Tryz.prog w = .ok (158, .pointer (some ⟨q, 0, none⟩)) w := by kernel_rfl
theorem ahead_hdr (q : Nat) (w : World) : (nilAhead 361 124 (.pointer (some ⟨q, 0, none⟩)) "TakeRemark").run Tryz.prog w = .ok (some false) w := by kernel_rfl
theorem ahead_pair (q : Nat) (w : World) : (nilAhead 361 61 (.pointer (some ⟨q, 0, none⟩)) "TakeRemark").run Tryz.prog w = .ok (some false) w := by kernel_rfl
theorem ahead_bare (q : Nat) (w : World) : (nilAhead 361 120 (.pointer (some ⟨q, 0, none⟩)) "TakeRemark").run Tryz.prog w = .ok (some false) w := by kernel_rfl
/-- As a line goes on behind its entry. -/
def Mid (s : ByteArray) (items : List It) (x : St) (y : St) (t : It) : Prop :=
  (rline s items x = rnote s (y, t) ∧ (bt s y.a = 35 → ∀ r : ByteArray, r.size ≠ 0 → ItOk ⟨t.k, t.path, t.full, t.v, r⟩) ∧ (bt s y.a ≠ 35 → ItOk t)) ∨
  (y.a < s.size ∧ bt s y.a ≠ 35 ∧ bt s y.a ≠ 10 ∧ (lineZ s items x).e = 3 ∧ (lineZ s items x).p = y.a)
theorem mid_item {s : ByteArray} {b : Nat} {w w' : World} {items : List It} {x : St} {v : Value} (he : x.e = 0) (hx : bt s (rblanks s x false).a = 91 ∨ letterB (bt s (rblanks s x false).a) = true)
    (h : EntOk s b w w' (ritem s items (rblanks s x false)).1 items (ritem s items (rblanks s x false)).2 v) :
    Mid s items x (rblanks s (ritem s items (rblanks s x false)).1 false) (ritem s items (rblanks s x false)).2 := by
  have hk : (ritem s items (rblanks s x false)).2.k = 91 ∨ (ritem s items (rblanks s x false)).2.k = 61 := by
    unfold ritem
    split
    · exact .inl rfl
    · exact .inr rfl
  have hlt : (rblanks s x false).a < s.size := by
    rcases Nat.lt_or_ge (rblanks s x false).a s.size with q | q
    · exact q
    · rw [bt_end s _ q] at hx
      rcases hx with e | e
      · omega
      · exact absurd e (by decide)
  have h10 : bt s (rblanks s x false).a ≠ 10 := by
    intro e
    rw [e] at hx
    exact absurd hx (by decide)
  have h35 : bt s (rblanks s x false).a ≠ 35 := by
    intro e
    rw [e] at hx
    exact absurd hx (by decide)
  refine .inl ⟨?_, fun _ r hr => ⟨h.h, h.p, ?_⟩, fun _ => ⟨h.h, h.p, ?_⟩⟩
  · rw [rline_eq, if_neg (by rintro (q | q); omega; exact h10 q)]
    unfold rbody
    rw [ris_pk s (rblanks s x false) 35 he (by decide), if_neg (by simpa using h35)]
  · rcases hk with q | q
    · exact .inl q
    · exact .inr (.inl q)
  · rcases hk with q | q
    · exact .inl q
    · exact .inr (.inl q)
theorem rname_none {s : ByteArray} {x : St} (he : x.e = 0) (ha : x.a ≤ s.size) (h : letterB (bt s x.a) = false) : (rname s x).1 = ⟨x.a, 3, x.a⟩ := by
  have e : scan letterB s x.a = x.a := scan_stop _ _ _ (fun _ => h)
  rw [rname_eq s x he ha, if_pos e]
theorem rpath_none {s : ByteArray} {x : St} (he : x.e = 0) (ha : x.a ≤ s.size) (h : letterB (bt s x.a) = false) : (rpath s x).1 = ⟨x.a, 3, x.a⟩ := by
  obtain ⟨n, hn⟩ : ∃ n, s.size + 1 - x.a = n + 1 := ⟨s.size - x.a, by omega⟩
  have e := rname_none he ha h
  have e0 : rpathLoop s (s.size + 1 - x.a) x [] = pathRest s n (rname s x).1 [(rname s x).2] := by rw [hn, rpathLoop_succ]; rfl
  rw [rpath_bad e0 (by rw [e]; simp), e]
theorem mid_bare {s : ByteArray} {items : List It} {x : St} (he : x.e = 0) (ha : x.a ≤ s.size) (hx : ¬ (bt s (rblanks s x false).a = 91 ∨ letterB (bt s (rblanks s x false).a) = true)) :
    ∃ k, (k = 32 ∨ k = 35) ∧ Mid s items x (rblanks s (rblanks s x false) false) (bareIt k) := by
  rw [rblanks_idem]
  have h1 : (rblanks s x false).a ≤ s.size := scan_le _ _ _ ha
  have he1 : (rblanks s x false).e = 0 := he
  have hz : (rline s items x).1.e = 3 → (rline s items x).1.p = (rblanks s x false).a → (lineZ s items x).e = 3 ∧ (lineZ s items x).p = (rblanks s x false).a := by
    intro q1 q2
    unfold lineZ
    rw [if_neg (by rintro ⟨q, _⟩; rw [q1] at q; cases q)]
    exact ⟨q1, q2⟩
  by_cases hb : s.size ≤ (rblanks s x false).a ∨ bt s (rblanks s x false).a = 10
  · have hn : bt s (rblanks s x false).a ≠ 35 := by
      rcases hb with q | q
      · rw [bt_end s _ q]; decide
      · rw [q]; decide
    refine ⟨32, .inl rfl, .inl ⟨?_, fun q => absurd q hn, fun _ => ⟨fun q => absurd (show (32 : Nat) = 91 from q) (by decide), fun q => absurd (show (32 : Nat) = 61 from q) (by decide), .inr (.inr (.inl ⟨rfl, rfl⟩))⟩⟩⟩
    rw [rline_eq, if_pos hb]
    unfold rnote
    simp only
    rw [ris_pk s (rblanks s x false) 35 he (by decide), if_neg (by simpa using hn)]
    rfl
  · by_cases h35 : bt s (rblanks s x false).a = 35
    · refine ⟨35, .inr rfl, .inl ⟨?_, fun _ r hr => ⟨fun q => absurd (show (35 : Nat) = 91 from q) (by decide), fun q => absurd (show (35 : Nat) = 61 from q) (by decide), .inr (.inr (.inr ⟨rfl, hr⟩))⟩, fun q => absurd h35 q⟩⟩
      rw [rline_eq, if_neg hb]
      unfold rbody
      rw [ris_pk s (rblanks s x false) 35 he (by decide), if_pos (by simpa using h35)]
      rfl
    · have hl : letterB (bt s (rblanks s x false).a) = false := by
        cases q : letterB (bt s (rblanks s x false).a)
        · rfl
        · exact absurd (.inr q) hx
      have h91 : bt s (rblanks s x false).a ≠ 91 := fun q => hx (.inl q)
      have hp := rpath_none (s := s) (x := rblanks s x false) he1 h1 hl
      have hb3 : (rpath s (rblanks s x false)).1.e ≠ 0 := by rw [hp]; simp
      have hsk := stk_val s 7 0 (rblanks s (rblanks s (rpath s (rblanks s x false)).1 false) false) hb3
      have e1 : rmust s (rblanks s (rpath s (rblanks s x false)).1 false) 61 = rblanks s (rpath s (rblanks s x false)).1 false := rmust_off _ _ _ hb3
      have hb6 : (rval s 7 0 (rblanks s (rblanks s (rpath s (rblanks s x false)).1 false) false)).1.e ≠ 0 := by rw [hsk.1]; exact hb3
      have F : (ritem s items (rblanks s x false)).1 = (rval s 7 0 (rblanks s (rblanks s (rpath s (rblanks s x false)).1 false) false)).1 := by
        rw [ritem_pair s items _ he1 h91, e1, if_neg (fun q => hb6 q.1)]
      have FE : (ritem s items (rblanks s x false)).1.e = 3 ∧ (ritem s items (rblanks s x false)).1.p = (rblanks s x false).a := by
        rw [F]
        refine ⟨hsk.1.trans ?_, hsk.2.trans ?_⟩
        · show (rpath s (rblanks s x false)).1.e = 3
          rw [hp]
        · show (rpath s (rblanks s x false)).1.p = _
          rw [hp]
      have L : rline s items x = (rblanks s (ritem s items (rblanks s x false)).1 false, (ritem s items (rblanks s x false)).2) := by
        rw [rline_eq, if_neg hb]
        unfold rbody
        rw [ris_pk s (rblanks s x false) 35 he (by decide), if_neg (by simpa using h35)]
        unfold rnote
        rw [ris_off s _ 35 (by show (ritem s items (rblanks s x false)).1.e ≠ 0; rw [FE.1]; simp), if_neg (by simp)]
      have hq := hz (by rw [L]; exact FE.1) (by rw [L]; exact FE.2)
      exact ⟨32, .inl rfl, .inr ⟨by omega, h35, fun q => hb (.inr q), hq.1, hq.2⟩⟩
theorem line_bad {s : ByteArray} {items : List It} {x : St} (he : x.e = 0) (hx : bt s (rblanks s x false).a = 91 ∨ letterB (bt s (rblanks s x false).a) = true) (h : (ritem s items (rblanks s x false)).1.e ≠ 0) :
    (lineZ s items x).e = (ritem s items (rblanks s x false)).1.e ∧ (lineZ s items x).p = (ritem s items (rblanks s x false)).1.p := by
  have hlt : (rblanks s x false).a < s.size := by
    rcases Nat.lt_or_ge (rblanks s x false).a s.size with q | q
    · exact q
    · rw [bt_end s _ q] at hx
      rcases hx with e | e
      · omega
      · exact absurd e (by decide)
  have h10 : bt s (rblanks s x false).a ≠ 10 := by
    intro e
    rw [e] at hx
    exact absurd hx (by decide)
  have h35 : bt s (rblanks s x false).a ≠ 35 := by
    intro e
    rw [e] at hx
    exact absurd hx (by decide)
  have L : rline s items x = (rblanks s (ritem s items (rblanks s x false)).1 false, (ritem s items (rblanks s x false)).2) := by
    rw [rline_eq, if_neg (by rintro (q | q); omega; exact h10 q)]
    unfold rbody
    rw [ris_pk s (rblanks s x false) 35 he (by decide), if_neg (by simpa using h35)]
    unfold rnote
    rw [ris_off s _ 35 (by exact h), if_neg (by simp)]
  unfold lineZ
  rw [if_neg (by rintro ⟨q, _⟩; rw [L] at q; exact h q), L]
  exact ⟨rfl, rfl⟩
end Go.Proofs.YtdebjhdafnpfkabGreatDoor
