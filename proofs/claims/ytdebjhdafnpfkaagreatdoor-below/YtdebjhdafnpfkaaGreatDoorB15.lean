import Derived.Test.YtdebjhdafnpfkaaGreatDoorB14
import Derived.Test.YtdebjhdafnpfkaaGreatDoorB02
import Derived.Test.YtdebjhdafnpfkaaGreatDoorB08
import Derived.Test.YtdebjhdafnpfkaaGreatDoorB09
namespace Go.Proofs.YtdebjhdafnpfkaaGreatDoor
open Go.ChangeShapes Go.WideShapes Go.ChangeAt Go.RowKit
set_option linter.unusedVariables false
set_option linter.unusedSimpArgs false
def bareIt (k : Nat) : It := ⟨k, [], [], V0, ⟨#[]⟩⟩
theorem bare_ok {s : ByteArray} {b : Nat} {w : World} {x : St} {items : List It} (he : x.e = 0) (h : PS w b s x.a items) (k : Nat) (hk : k = 32 ∨ k = 35) :
    EntOk s b w (w.alloc (.cells #[.string ⟨#[]⟩, .bool false] 175)) x items (bareIt k) (.iface 173 (ptr w.heap.size)) := by
  obtain ⟨hpc, hok, hlen, nb, hv, pv, ev, es, hpt⟩ := h
  refine ⟨he, hpc.alloc _, (Below.refl _ _).alloc (Nat.le_of_lt hpc.lt) _, (fun q => absurd (show k = 91 from q) (by omega)), (fun q => absurd (show k = 61 from q) (by omega)), nb, hv, pv, ev, es, (fun j => j = w.heap.size), ?_, ?_, ?_, (fun j hj => by rw [show j = w.heap.size from hj]; exact hpt.bnd)⟩
  · rw [rtable_snoc, hdrs_snoc, prs_snoc, if_neg (show ¬ (bareIt k).k = 91 by show ¬ k = 91; omega), if_neg (show ¬ (bareIt k).k = 91 by show ¬ k = 91; omega), if_neg (show ¬ (bareIt k).k = 61 by show ¬ k = 61; omega)]
    exact hpt.alloc hpc.lt _
  · rintro j rfl
    refine ⟨hpc.lt, by simp, fun hk => ?_, fun hk => ?_, fun hk => ?_⟩
    · have := (hpt.o4.lt _ hk).2; omega
    · have := (hpt.o5.lt _ hk).2; omega
    · have := (hpt.o6.lt _ hk).2; omega
  · refine ⟨w.heap.size, rfl, ?_, ?_, fun o => froz_new _ _ _ _ _ rfl, .inr (.inr ⟨hk, rfl⟩)⟩
    · rw [World.cell?_alloc_at _ _ _ _ rfl]; rfl
    · rw [World.cell?_alloc_at _ _ _ _ rfl]; rfl
/-- What readEntry comes to. -/
def EntP (b : Nat) (s : ByteArray) (items : List It) (x : St) (w : World) (e : Ending) (w' : World) : Prop :=
  (bt s x.a = 91 ∨ letterB (bt s x.a) = true) ∧ ((∃ t q, e = .returned (.iface t (ptr q)) ∧ EntOk s b w w' (ritem s items x).1 items (ritem s items x).2 (.iface t (ptr q))) ∨ PBad s b w e w' (ritem s items x).1) ∨
  (¬ (bt s x.a = 91 ∨ letterB (bt s x.a) = true) ∧ ∃ t q, e = .returned (.iface t (ptr q)) ∧ ∀ k, k = 32 ∨ k = 35 → EntOk s b w w' x items (bareIt k) (.iface t (ptr q)))
theorem PS.drewN {w : World} {b : Nat} {s : ByteArray} {a : Nat} {items : List It} (h : PS w b s a items) (n : Nat) : PS (w.drewN n) b s a items :=
  ⟨h.pc.drewN n, h.ok, h.len, h.pt.elim fun nb ⟨hv, pv, ev, es, hpt⟩ => ⟨nb, hv, pv, ev, es, hpt.kc ((Kc.refl _ _).drewN n)⟩⟩
theorem EntOk.pre {s : ByteArray} {b : Nat} {w w0 w' : World} {y : St} {items : List It} {t : It} {v : Value} (h : EntOk s b w0 w' y items t v) (hb : Below b w w0) : EntOk s b w w' y items t v :=
  ⟨h.e, h.pc, hb.trans h.bel, h.h, h.p, h.pt⟩
set_option maxHeartbeats 2000000 in
theorem readEntry_any (b : Nat) (s : ByteArray) (items : List It) (x : St) (w : World) (m : Int) (hs : s.size ≤ 4000) (he : x.e = 0) (ha : x.a ≤ s.size) (hG : 1 < b)
    (hm : w.cell? ⟨1, 0, none⟩ = some (.int .i64 m)) (h : PS w b s x.a items) :
    Calls Tryz.prog 82 #[.pointer (some ⟨b, 0, none⟩)] w fun e w' => EntP b s items x w e w' := by
  have h' : Hid (PS w b s x.a items) := h
  have HE : Hid (x.e = 0) := he
  have Hm : Hid _ := hm
  have hlt := h.pc.lt
  clear h he hm
  have hD : Hid (∀ n, Below b w (w.drewN n)) := fun n => ((Kb.refl b w).drewN n).bel hlt
  by_cases h91 : bt s x.a = 91
  · have t1 : ((bt s x.a : Int) == 91) = true := by simp; omega
    have H91 : Hid (bt s x.a = 91) := h91
    clear h91
    go_enter Tryz.func82, Tryz.ntmps82
    go_wp2_with fail
    refine (peek_any b s x.a _ hs ha h'.out.pc).mono ?_
    rintro e w1 ⟨rfl, k1, rfl⟩
    go_wp2_with fail
    refine (readHeader_any b s items x _ hs HE.out H91.out (h'.out.drewN k1)).mono ?_
    rintro e w2 (⟨q, rfl, hok⟩ | ⟨hb1, q, hq⟩)
    · have hok' : Hid _ := hok
      clear hok
      go_wp2_with fail
      go_ret
      exact .inl ⟨.inl H91.out, .inl ⟨_, _, rfl, hok'.out.pre (hD.out k1)⟩⟩
    · have he' := hq.e
      subst he'
      exact ⟨rfl, .inl ⟨.inl H91.out, .inr ⟨hb1, q, hq.trans ((Kb.refl _ _).drewN k1)⟩⟩⟩
  · have t1 : ((bt s x.a : Int) == 91) = false := by simp; omega
    cases hl : letterB (bt s x.a)
    · have N : Hid (¬ (bt s x.a = 91 ∨ letterB (bt s x.a) = true)) := by
        rintro (q | q)
        · exact h91 q
        · rw [hl] at q; cases q
      clear h91
      go_enter Tryz.func82, Tryz.ntmps82
      go_wp2_with fail
      refine (peek_any b s x.a _ hs ha h'.out.pc).mono ?_
      rintro e w1 ⟨rfl, k1, rfl⟩
      go_wp2_with fail
      refine (isOfName_any _ _ (bt_lt _ _)).mono ?_
      rintro e w2 ⟨rfl, hw2⟩
      rw [hw2, hl]
      clear hw2
      have HS : Hid (PS (w.drewN k1) b s x.a items) := h'.out.drewN k1
      have HB : Hid (Below b w (w.drewN k1)) := hD.out k1
      generalize w.drewN k1 = w1 at *
      go_wp2_with fail
      go_ret
      exact .inr ⟨N.out, _, _, rfl, fun k hk => (bare_ok HE.out HS.out k hk).pre HB.out⟩
    · have H91 : Hid (bt s x.a ≠ 91) := h91
      have HL : Hid (letterB (bt s x.a) = true) := hl
      clear h91
      go_enter Tryz.func82, Tryz.ntmps82
      go_wp2_with fail
      refine (peek_any b s x.a _ hs ha h'.out.pc).mono ?_
      rintro e w1 ⟨rfl, k1, rfl⟩
      go_wp2_with fail
      refine (isOfName_any _ _ (bt_lt _ _)).mono ?_
      rintro e w2 ⟨rfl, hw2⟩
      rw [hw2, HL.out]
      clear hw2
      go_wp2_with fail
      refine (readPair_any b s items x (w.drewN k1) m hs HE.out ha H91.out hG Hm.out (h'.out.drewN k1)).mono ?_
      rintro e w2 (⟨q, rfl, hok⟩ | ⟨hb1, q, hq⟩)
      · have hok' : Hid _ := hok
        clear hok
        go_wp2_with fail
        go_ret
        exact .inl ⟨.inr HL.out, .inl ⟨_, _, rfl, hok'.out.pre (hD.out k1)⟩⟩
      · have he' := hq.e
        subst he'
        exact ⟨rfl, .inl ⟨.inr HL.out, .inr ⟨hb1, q, hq.trans ((Kb.refl _ _).drewN k1)⟩⟩⟩
end Go.Proofs.YtdebjhdafnpfkaaGreatDoor

namespace Go.Proofs.YtdebjhdafnpfkaaGreatDoor
open Go.ChangeShapes Go.WideShapes Go.ChangeAt Go.RowKit
set_option linter.unusedVariables false
set_option linter.unusedSimpArgs false
theorem take_isInLine (b : Nat) (s : ByteArray) (a : Nat) (w : World) (hs : s.size ≤ 4000) (ha : a ≤ s.size) (h : PC w b s a) :
    Calls Tryz.prog 78 #[.pointer (some ⟨b, 0, none⟩), .func (.func 85) #[] #[]] w fun e w' =>
      e = .returned (.string (s.extract a (scan (inLine) s a))) ∧ PC w' b s (scan (inLine) s a) ∧ Kc b w w' := by
  have hA := h.A
  have h' : Hid (PC w b s a) := h
  clear h
  go_enter Tryz.func78, Tryz.ntmps78
  go_wp2
  go_loopw [] (fun wr => ∃ a' : Nat, Hid (PC wr b s a') ∧ Kc b w wr ∧ Hid (scan (inLine) s a = scan (inLine) s a') ∧ a ≤ a' ∧ a' ≤ s.size) (fun wr => s.size - atOf wr b)
  case atStart => exact ⟨a, h', Kc.refl _ _, rfl, Nat.le_refl _, ha⟩
  case round =>
    clear h' hA
    obtain ⟨a', h1, hk, hsc, ha1, ha'⟩ := hrel
    obtain ⟨hT, hA, hL, hF, hlt⟩ := h1.out
    by_cases hl : a' < s.size
    · have hd : decide (a' = s.size) = false := by simp; omega
      have hbt := bt_in s a' hl
      cases hb : (inLine) (bt s a')
      · have hfin : Hid (scan (inLine) s a = a') := by
          unfold Hid
          rw [hsc.out, scan_stop _ _ _ (fun _ => hb)]
        go_wp2
        go_quiet (first | (go_at_call 53; exact Calls.quiet_of (done_any b s a' _ hs ha' (h1.out.drewN _))) | (go_at_call 85; exact Calls.quiet_of_same (isInLine_any _ _ (bt_lt _ _))))
        go_wp2
        go_quiet (fail)
        go_wp2
        go_ret
        exact ⟨ret_str' (by rw [hfin.out]), by rw [hfin.out]; exact (h1.out.drewN _).drewN _, (hk.drewN _).drewN _⟩
      · have hst : Hid (scan (inLine) s a' = scan (inLine) s (a' + 1)) := scan_step _ _ _ hl hb
        go_wp2
        go_quiet (first | (go_at_call 53; exact Calls.quiet_of (done_any b s a' _ hs ha' (h1.out.drewN _))) | (go_at_call 85; exact Calls.quiet_of_same (isInLine_any _ _ (bt_lt _ _))))
        go_wp2_with fail
        refine (step_any b s a' _ hs hl (h1.out.drewN _)).mono ?_
        rintro e w1 ⟨rfl, h2, hk2⟩
        have h2' : Hid (PC w1 b s (a' + 1)) := h2
        clear h2
        go_wp2
        go_roundw
        case rel => exact ⟨a' + 1, h2', (hk.drewN _).trans hk2, hsc.out.trans hst.out, by omega, by omega⟩
        case measure => rw [h2'.out.atOf, h1.out.atOf]; omega
    · have e1 : a' = s.size := by omega
      have hd : decide (a' = s.size) = true := by simp; omega
      have hfin : Hid (scan (inLine) s a = a') := by
        unfold Hid
        rw [hsc.out, scan_stop _ _ _ (fun h => absurd h hl)]
      have H : Hid (a' = s.size) := e1
      clear e1
      go_wp2
      go_quiet ((go_at_call 53; exact Calls.quiet_of (done_any b s a' _ hs ha' (h1.out.drewN _))))
      go_wp2
      go_quiet (fail)
      go_wp2
      go_ret
      exact ⟨ret_str' (by rw [hfin.out]), by rw [hfin.out]; exact (h1.out.drewN _).drewN _, (hk.drewN _).drewN _⟩
end Go.Proofs.YtdebjhdafnpfkaaGreatDoor

namespace Go.Proofs.YtdebjhdafnpfkaaGreatDoor
open Go.ChangeShapes Go.WideShapes Go.ChangeAt Go.RowKit
set_option linter.unusedVariables false
/-- An item's five cells, and what they lead to. -/
def RIt (lo hi : Nat) (w : World) (c : List Value) (t : It) : Prop :=
  ∃ pv fv vv, c = [.int .u8 t.k, pv, fv, vv, .string t.rem] ∧ RowIn w lo hi 9 pv (t.path.map .string) ∧ RowIn w lo hi 9 fv (t.full.map .string) ∧
    (t.k = 61 → ∃ q, vv = ptr q ∧ RVal 7 lo hi w q t.v) ∧ (t.k ≠ 61 → vv = .pointer none) ∧ t.path.length ≤ 4001 ∧ t.full.length ≤ 8002
theorem RIt.frame {lo hi : Nat} {w w' : World} {c : List Value} {t : It} (h : RIt lo hi w c t) (hb : ∀ k, lo ≤ k → k < hi → w'.heap[k]? = w.heap[k]?) : RIt lo hi w' c t := by
  obtain ⟨pv, fv, vv, h1, h2, h3, h4, h5, h6, h7⟩ := h
  exact ⟨pv, fv, vv, h1, h2.frame hb, h3.frame hb, fun e => by obtain ⟨q, a, r⟩ := h4 e; exact ⟨q, a, r.frame hb⟩, h5, h6, h7⟩
theorem RIt.len {lo hi : Nat} {w : World} {c : List Value} {t : It} (h : RIt lo hi w c t) : c.length = 5 := by
  obtain ⟨pv, fv, vv, h1, _⟩ := h
  rw [h1]
  rfl
/-- All that was read so far, as it lies. -/
def Its (w : World) (b : Nat) (it : Value) (cs : List (List Value)) (items : List It) : Prop :=
  cs.length = items.length ∧ w.ownsRow (b + 1) 72 5 it items.length cs.flatten ∧ ∀ (i : Nat) (c : List Value) (t : It), cs[i]? = some c → items[i]? = some t →
    ∃ lo hi, b < lo ∧ hi ≤ w.heap.size ∧ (∀ k, it.ownBlock = some k → ¬ (lo ≤ k ∧ k < hi)) ∧ RIt lo hi w c t
theorem owns5_frame {w w' : World} {base : Nat} {e : TypeId} {v : Value} {n : Nat} {xs : List Value} (h : w.ownsRow base e 5 v n xs) (hb : ∀ k, base ≤ k → k < w.heap.size → w'.heap[k]? = w.heap[k]?) : w'.ownsRow base e 5 v n xs := by
  refine ⟨h.1, ?_⟩
  rcases h.2 with hn | ⟨g, cap, cur, rfl, hg, hgg, rest⟩
  · exact .inl hn
  · exact .inr ⟨g, cap, cur, rfl, hg, (hb g hg (Array.getElem?_eq_some_iff.1 hgg).1).trans hgg, rest⟩
theorem owns5_form {w : World} {base : Nat} {e : TypeId} {v : Value} {n : Nat} {xs : List Value} (h : w.ownsRow base e 5 v n xs) : ∃ ad cap, v = .slice ad n cap := by
  rcases h.2 with ⟨rfl, rfl⟩ | ⟨g, cap, cur, rfl, _⟩
  · exact ⟨_, _, rfl⟩
  · exact ⟨_, _, rfl⟩
theorem owns5_some {w : World} {base : Nat} {e : TypeId} {ad : Option Addr} {n cap : Nat} {xs : List Value} (h : w.ownsRow base e 5 (.slice ad n cap) n xs) (hn : 0 < n) : ∃ g, ad = some ⟨g, 0, none⟩ ∧ base ≤ g ∧ g < w.heap.size := by
  rcases h.2 with ⟨h1, h2⟩ | ⟨g, c, cur, h1, h2, h3, _⟩
  · omega
  · simp only [Value.slice.injEq] at h1
    exact ⟨g, h1.1, h2, (Array.getElem?_eq_some_iff.1 h3).1⟩
theorem Its.frame {w w' : World} {b : Nat} {it : Value} {cs : List (List Value)} {items : List It} (h : Its w b it cs items) (hz : w.heap.size ≤ w'.heap.size) (hb : ∀ k, b < k → k < w.heap.size → w'.heap[k]? = w.heap[k]?) : Its w' b it cs items := by
  refine ⟨h.1, owns5_frame h.2.1 (fun k h1 h2 => hb k (by omega) h2), fun i c t hc ht => ?_⟩
  obtain ⟨lo, hi, a1, a2, a3, a4⟩ := h.2.2 i c t hc ht
  exact ⟨lo, hi, a1, Nat.le_trans a2 hz, a3, a4.frame (fun k k1 k2 => hb k (by omega) (by omega))⟩
theorem Its.kb {b : Nat} {w w' : World} {it : Value} {cs : List (List Value)} {items : List It} (h : Its w b it cs items) (hk : Kb b w w') : Its w' b it cs items :=
  h.frame hk.size (fun k h1 h2 => hk.block k h2 (by omega))
theorem Its.nil (w : World) (b : Nat) : Its w b (.slice none 0 0) [] [] := ⟨rfl, World.ownsRow_nil _ _ _ _, fun i c t h => by simp at h⟩
theorem flatten_get : ∀ (cs : List (List Value)), (∀ c ∈ cs, c.length = 5) → ∀ (i : Nat) (c : List Value), cs[i]? = some c → ∀ j, j < 5 → cs.flatten[5 * i + j]? = c[j]?
  | [], _, i, c, h, j, hj => by simp at h
  | a :: r, hl, 0, c, h, j, hj => by
    simp only [List.getElem?_cons_zero, Option.some.injEq] at h
    subst h
    simp only [List.flatten_cons, Nat.mul_zero, Nat.zero_add]
    rw [List.getElem?_append_left (by rw [hl a (by simp)]; exact hj)]
  | a :: r, hl, i + 1, c, h, j, hj => by
    simp only [List.getElem?_cons_succ] at h
    have ha : a.length = 5 := hl a (by simp)
    simp only [List.flatten_cons]
    rw [List.getElem?_append_right (by omega), ha, show 5 * (i + 1) + j - 5 = 5 * i + j by omega]
    exact flatten_get r (fun c hc => hl c (by simp [hc])) i c h j hj
/-- The cells of one of them. -/
theorem Its.cells {w : World} {b : Nat} {ad : Option Addr} {n cap : Nat} {cs : List (List Value)} {items : List It} (h : Its w b (.slice ad n cap) cs items) (i : Nat) (hi : i < items.length) :
    ∃ g pv fv vv lo h', ad = some ⟨g, 0, none⟩ ∧ b < g ∧ g < w.heap.size ∧ w.cell? ⟨g, i * 5, none⟩ = some (.int .u8 items[i].k) ∧ w.cell? ⟨g, i * 5 + 1, none⟩ = some pv ∧ w.cell? ⟨g, i * 5 + 2, none⟩ = some fv ∧ w.cell? ⟨g, i * 5 + 3, none⟩ = some vv ∧
      w.cell? ⟨g, i * 5 + 4, none⟩ = some (.string items[i].rem) ∧ RowIn w lo h' 9 pv (items[i].path.map .string) ∧ RowIn w lo h' 9 fv (items[i].full.map .string) ∧ items[i].path.length ≤ 4001 ∧ items[i].full.length ≤ 8002 ∧
      b < lo ∧ h' ≤ w.heap.size ∧ (items[i].k = 61 → ∃ q, vv = ptr q ∧ RVal 7 lo h' w q items[i].v) ∧ (items[i].k ≠ 61 → vv = .pointer none) := by
  have hn : n = items.length := by
    obtain ⟨a, c, e⟩ := owns5_form h.2.1
    simp only [Value.slice.injEq] at e
    exact e.2.1
  subst hn
  obtain ⟨g, hg, hgb, hgz⟩ := owns5_some h.2.1 (by omega)
  subst hg
  have hcs : i < cs.length := by rw [h.1]; exact hi
  obtain ⟨lo, h', a1, a2, a3, pv, fv, vv, hc, r1, r2, r3, r4, r5, r6⟩ := h.2.2 i cs[i] items[i] (List.getElem?_eq_getElem hcs) (List.getElem?_eq_getElem hi)
  have hl : ∀ c ∈ cs, c.length = 5 := by
    intro c hc'
    obtain ⟨j, hj, e⟩ := List.getElem_of_mem hc'
    obtain ⟨lo2, hi2, _, _, _, rr⟩ := h.2.2 j c (items[j]'(by rw [← h.1]; exact hj)) (by rw [List.getElem?_eq_getElem hj, e]) (List.getElem?_eq_getElem (by rw [← h.1]; exact hj))
    exact rr.len
  have hcell : ∀ j, j < 5 → w.cell? ⟨g, i * 5 + j, none⟩ = cs[i][j]? := by
    intro j hj
    rw [h.2.1.cellAt (i * 5 + j) (by omega), Nat.mul_comm i 5]
    exact flatten_get cs hl i cs[i] (List.getElem?_eq_getElem hcs) j hj
  refine ⟨g, pv, fv, vv, lo, h', rfl, by omega, hgz, ?_, ?_, ?_, ?_, ?_, r1, r2, r5, r6, a1, a2, r3, r4⟩
  · have := hcell 0 (by omega); rw [hc] at this; exact this
  · have := hcell 1 (by omega); rw [hc] at this; exact this
  · have := hcell 2 (by omega); rw [hc] at this; exact this
  · have := hcell 3 (by omega); rw [hc] at this; exact this
  · have := hcell 4 (by omega); rw [hc] at this; exact this
end Go.Proofs.YtdebjhdafnpfkaaGreatDoor

namespace Go.Proofs.YtdebjhdafnpfkaaGreatDoor
open Go.ChangeShapes Go.WideShapes Go.ChangeAt Go.RowKit
set_option linter.unusedVariables false
/-- An item that is being put together. -/
structure XN (w : World) (q k : Nat) (pv fv : Value) (vo : Option Addr) (r : ByteArray) : Prop where
  c0 : w.cell? ⟨q, 0, none⟩ = some (.int .u8 k)
  c1 : w.cell? ⟨q, 1, none⟩ = some pv
  c2 : w.cell? ⟨q, 2, none⟩ = some fv
  c3 : w.cell? ⟨q, 3, none⟩ = some (.pointer vo)
  c4 : w.cell? ⟨q, 4, none⟩ = some (.string r)
  F : ∀ o, w.frozen? ⟨q, o, none⟩ = false
  lt : q < w.heap.size
theorem XN.of_block {w w' : World} {q k : Nat} {pv fv : Value} {vo : Option Addr} {r : ByteArray} (h : XN w q k pv fv vo r) (hb : w'.heap[q]? = w.heap[q]?) (hz : w.heap.size ≤ w'.heap.size) : XN w' q k pv fv vo r :=
  ⟨(World.cell?_of_block (w := w) hb).trans h.c0, (World.cell?_of_block (w := w) hb).trans h.c1, (World.cell?_of_block (w := w) hb).trans h.c2, (World.cell?_of_block (w := w) hb).trans h.c3,
   (World.cell?_of_block (w := w) hb).trans h.c4, fun o => (World.frozen?_of_block (w := w) hb).trans (h.F o), Nat.lt_of_lt_of_le h.lt hz⟩
theorem XN.kb {b : Nat} {w w' : World} {q k : Nat} {pv fv : Value} {vo : Option Addr} {r : ByteArray} (h : XN w q k pv fv vo r) (hk : Kb b w w') (hb : q ≠ b) : XN w' q k pv fv vo r := h.of_block (hk.block q h.lt hb) hk.size
theorem XN.below {B : Nat} {w w' : World} {q k : Nat} {pv fv : Value} {vo : Option Addr} {r : ByteArray} (h : XN w q k pv fv vo r) (hk : Below B w w') (hb : q < B) : XN w' q k pv fv vo r := h.of_block (hk.block q hb) hk.size
theorem XN.drewN {w : World} {q k : Nat} {pv fv : Value} {vo : Option Addr} {r : ByteArray} (h : XN w q k pv fv vo r) (n : Nat) : XN (w.drewN n) q k pv fv vo r := by
  induction n with
  | zero => exact h
  | succ n ih => exact ⟨ih.c0, ih.c1, ih.c2, ih.c3, ih.c4, ih.F, ih.lt⟩
theorem XN.alloc {w : World} {q k : Nat} {pv fv : Value} {vo : Option Addr} {r : ByteArray} (h : XN w q k pv fv vo r) (o : Obj) : XN (w.alloc o) q k pv fv vo r := h.of_block (Below.heap_alloc _ _ _ h.lt) (by simp)
theorem XN.new (w : World) (k : Nat) : XN (w.alloc (.cells #[.int .u8 k, .slice none 0 0, .slice none 0 0, .pointer none, .string ⟨#[]⟩] 72)) w.heap.size k (.slice none 0 0) (.slice none 0 0) none ⟨#[]⟩ :=
  ⟨by simp, by simp, by simp, by simp, by simp, fun o => by simp, by simp⟩
theorem RowIn.kb {b : Nat} {w w' : World} {lo hi : Nat} {e : TypeId} {v : Value} {xs : List Value} (h : RowIn w lo hi e v xs) (hk : Kb b w w') (hb : b < lo) (hz : hi ≤ w.heap.size) : RowIn w' lo hi e v xs :=
  h.frame (fun k k1 k2 => hk.block k (by omega) (by omega))
theorem RowIn.set {w : World} {lo hi : Nat} {e : TypeId} {v : Value} {xs : List Value} (h : RowIn w lo hi e v xs) (q o : Nat) (u : Value) (hq : q < lo) : RowIn (w.setCell ⟨q, o, none⟩ u) lo hi e v xs :=
  h.frame (fun k k1 _ => Below.heap_setCell _ _ _ _ (by simp only; omega))
theorem RVal.kb {b d : Nat} {w w' : World} {lo hi p : Nat} {v : V} (h : RVal d lo hi w p v) (hk : Kb b w w') (hb : b < lo) (hz : hi ≤ w.heap.size) : RVal d lo hi w' p v :=
  h.frame (fun k k1 k2 => hk.block k (by omega) (by omega))
theorem RVal.set {d : Nat} {w : World} {lo hi p : Nat} {v : V} (h : RVal d lo hi w p v) (q o : Nat) (u : Value) (hq : q < lo) : RVal d lo hi (w.setCell ⟨q, o, none⟩ u) p v :=
  h.frame (fun k k1 _ => Below.heap_setCell _ _ _ _ (by simp only; omega))
end Go.Proofs.YtdebjhdafnpfkaaGreatDoor

namespace Go.Proofs.YtdebjhdafnpfkaaGreatDoor
open Go.ChangeShapes Go.WideShapes Go.ChangeAt Go.RowKit
set_option linter.unusedVariables false
theorem gd_item {s : ByteArray} {x : St} (items : List It) (h : Inv s x) : Gd s x (ritem s items x).1 := by
  unfold ritem
  split
  · rename_i hr
    have h1 := gd_must (gd_blanks (gd_path (gd_blanks (gd_step (Gd.refl h) hr) false)) false) 93
    exact gd_ite (gd_no h1 (by decide)) h1
  · have h1 := gd_f (gd_val 7 0) (gd_blanks (gd_must (gd_blanks (gd_path (Gd.refl h)) false) 61) false)
    exact gd_ite (gd_no h1 (by decide)) h1
/-- A line's header, pair or nothing, and the remark behind it. -/
def rbody (s : ByteArray) (items : List It) (x : St) : St × It := if ris s x 35 = true then (x, ⟨35, [], [], V0, ⟨#[]⟩⟩) else (rblanks s (ritem s items x).1 false, (ritem s items x).2)
def rnote (s : ByteArray) (r : St × It) : St × It := if ris s r.1 35 = true then (⟨scan inLine s r.1.a, r.1.e, r.1.p⟩, ⟨r.2.k, r.2.path, r.2.full, r.2.v, s.extract r.1.a (scan inLine s r.1.a)⟩) else r
theorem rline_eq (s : ByteArray) (items : List It) (x : St) : rline s items x = if s.size ≤ (rblanks s x false).a ∨ bt s (rblanks s x false).a = 10 then (rblanks s x false, ⟨32, [], [], V0, ⟨#[]⟩⟩) else rnote s (rbody s items (rblanks s x false)) := rfl
theorem gd_note {s : ByteArray} {x : St} {r : St × It} (h : Gd s x r.1) : Gd s x (rnote s r).1 := by
  unfold rnote
  split
  · exact gd_scan h _
  · exact h
theorem gd_body {s : ByteArray} {x : St} (items : List It) (h : Inv s x) : Gd s x (rbody s items x).1 := by
  unfold rbody
  split
  · exact Gd.refl h
  · exact gd_blanks (gd_item items h) false
theorem gd_line {s : ByteArray} {x : St} (items : List It) (h : Inv s x) : Gd s x (rline s items x).1 := by
  rw [rline_eq]
  have h1 := gd_blanks (Gd.refl h) false
  split
  · exact h1
  · exact gd_note (h1.trans (gd_body items h1.1))
theorem RIt.wide {lo hi lo' hi' : Nat} {w : World} {c : List Value} {t : It} (h : RIt lo hi w c t) (a1 : lo' ≤ lo) (a2 : hi ≤ hi') : RIt lo' hi' w c t := by
  obtain ⟨p1, f1, v1, h1, h2, h3, h4, h5, h6, h7⟩ := h
  exact ⟨p1, f1, v1, h1, h2.wide a1 a2, h3.wide a1 a2, fun e => by obtain ⟨q, e1, e2⟩ := h4 e; exact ⟨q, e1, e2.wide a1 a2⟩, h5, h6, h7⟩
theorem RIt.drew {lo hi : Nat} {w : World} {c : List Value} {t : It} (h : RIt lo hi w c t) : RIt lo hi w.drew c t := h.frame (fun _ _ _ => rfl)
end Go.Proofs.YtdebjhdafnpfkaaGreatDoor
