import Derived.Test.YtdebjhdafnpfkabGreatDoorK02
import Derived.Test.YtdebjhdafnpfkabGreatDoorK01
import Derived.Maps.AppendAt
namespace Go.Proofs.YtdebjhdafnpfkabGreatDoor
open Go.ChangeShapes Go.WideShapes Go.ChangeAt Go.RowKit
set_option linter.unusedVariables false
set_option linter.unusedSimpArgs false
theorem take_isOfName (b : Nat) (s : ByteArray) (a : Nat) (w : World) (hs : s.size ≤ 4000) (ha : a ≤ s.size) (h : PC w b s a) :
    Calls Tryz.prog 42 #[.pointer (some ⟨b, 0, none⟩), .func (.func 64) #[] #[]] w fun e w' =>
      e = .returned (.string (s.extract a (scan (letterB) s a))) ∧ PC w' b s (scan (letterB) s a) ∧ Kc b w w' := by
  have hA := h.A
  have h' : Hid (PC w b s a) := h
  clear h
  go_enter Tryz.func42, Tryz.ntmps42
  go_wp2
  go_loopw [] (fun wr => ∃ a' : Nat, Hid (PC wr b s a') ∧ Kc b w wr ∧ Hid (scan (letterB) s a = scan (letterB) s a') ∧ a ≤ a' ∧ a' ≤ s.size) (fun wr => s.size - atOf wr b)
  case atStart => exact ⟨a, h', Kc.refl _ _, rfl, Nat.le_refl _, ha⟩
  case round =>
    clear h' hA
    obtain ⟨a', h1, hk, hsc, ha1, ha'⟩ := hrel
    obtain ⟨hT, hA, hL, hF, hlt⟩ := h1.out
    by_cases hl : a' < s.size
    · have hd : decide (a' = s.size) = false := by simp; omega
      have hbt := bt_in s a' hl
      cases hb : (letterB) (bt s a')
      · have hfin : Hid (scan (letterB) s a = a') := by
          unfold Hid
          rw [hsc.out, scan_stop _ _ _ (fun _ => hb)]
        go_wp2
        go_quiet (first | (go_at_call 29; exact Calls.quiet_of (done_any b s a' _ hs ha' (h1.out.drewN _))) | (go_at_call 64; exact Calls.quiet_of_same (isOfName_any _ _ (bt_lt _ _))))
        go_wp2
        go_quiet (fail)
        go_wp2
        go_ret
        exact ⟨ret_str' (by rw [hfin.out]), by rw [hfin.out]; exact (h1.out.drewN _).drewN _, (hk.drewN _).drewN _⟩
      · have hst : Hid (scan (letterB) s a' = scan (letterB) s (a' + 1)) := scan_step _ _ _ hl hb
        go_wp2
        go_quiet (first | (go_at_call 29; exact Calls.quiet_of (done_any b s a' _ hs ha' (h1.out.drewN _))) | (go_at_call 64; exact Calls.quiet_of_same (isOfName_any _ _ (bt_lt _ _))))
        go_wp2_with fail
        refine (step_any b s a' _ hs hl (h1.out.drewN _)).mono ?_
        rintro e w1 ⟨rfl, h2, hk2⟩
        have h2' : Hid (PC w1 b s (a' + 1)) := h2
        clear h2
        go_wp2
        go_roundw
        case rel => exact ⟨a' + 1, h2', (hk.drewN _).trans hk2, hsc.out.trans hst.out, by omega, by omega⟩
        case measure => rw [h2'.out.atOf, h1.out.atOf]; omega
    · have e1 : a' = s.size := by omega
      have hd : decide (a' = s.size) = true := by simp; omega
      have hfin : Hid (scan (letterB) s a = a') := by
        unfold Hid
        rw [hsc.out, scan_stop _ _ _ (fun h => absurd h hl)]
      have H : Hid (a' = s.size) := e1
      clear e1
      go_wp2
      go_quiet ((go_at_call 29; exact Calls.quiet_of (done_any b s a' _ hs ha' (h1.out.drewN _))))
      go_wp2
      go_quiet (fail)
      go_wp2
      go_ret
      exact ⟨ret_str' (by rw [hfin.out]), by rw [hfin.out]; exact (h1.out.drewN _).drewN _, (hk.drewN _).drewN _⟩
end Go.Proofs.YtdebjhdafnpfkabGreatDoor

namespace Go.Proofs.YtdebjhdafnpfkabGreatDoor
open Go.ChangeShapes Go.WideShapes Go.ChangeAt Go.RowKit
set_option linter.unusedVariables false
theorem ret_bool {a b : Bool} (h : a = b) : Ending.returned (.bool a) = .returned (.bool b) := by rw [h]
end Go.Proofs.YtdebjhdafnpfkabGreatDoor

namespace Go.Proofs.YtdebjhdafnpfkabGreatDoor
open Go.ChangeShapes Go.WideShapes Go.ChangeAt Go.RowKit
set_option linter.unusedVariables false
theorem RD.of_block {w w' : World} {b : Nat} {s : ByteArray} {x : St} {it : Value} (h : RD w b s x it) (hb : w'.heap[b]? = w.heap[b]?) (hz : w.heap.size ≤ w'.heap.size) : RD w' b s x it :=
  ⟨(World.cell?_of_block (w := w) hb).trans h.S, (World.cell?_of_block (w := w) hb).trans h.A, (World.cell?_of_block (w := w) hb).trans h.E, (World.cell?_of_block (w := w) hb).trans h.P,
   (World.cell?_of_block (w := w) hb).trans h.I, fun o => (World.frozen?_of_block (w := w) hb).trans (h.F o), Nat.lt_of_lt_of_le h.lt hz⟩
theorem RD.alloc {w : World} {b : Nat} {s : ByteArray} {x : St} {it : Value} (h : RD w b s x it) (o : Obj) : RD (w.alloc o) b s x it :=
  h.of_block (Below.heap_alloc _ _ _ h.lt) (by simp)
theorem RD.grown {w w' : World} {b : Nat} {s : ByteArray} {x : St} {it : Value} {row : Option Nat} (h : RD w b s x it) (hg : w.grownBy w' row) (hr : some b ≠ row) : RD w' b s x it :=
  h.of_block (hg.block b h.lt hr) hg.size
/-- What was there is as it was, but for b; what is written is new. -/
theorem Kb.of_new {b : Nat} {u v w : World} (h : Kb b u v) (hb : b < u.heap.size) (ho : w.os = v.os) (ht : w.tape = v.tape) (hp : w.output = v.output) (hz : v.heap.size ≤ w.heap.size)
    (hk : ∀ k, k < u.heap.size → w.heap[k]? = v.heap[k]?) : Kb b u w :=
  ⟨ho.trans h.os, ht.trans h.tape, hp.trans h.output, Nat.le_trans h.size hz, fun k hk' hb' => (hk k hk').trans (h.block k hk' hb'), fun o => (World.frozen?_of_block (w := v) (hk b hb)).trans (h.froz o)⟩
theorem Kb.grown {b : Nat} {u v w : World} {row : Option Nat} (h : Kb b u v) (hb : b < u.heap.size) (hg : v.grownBy w row) (hr : ∀ k, row = some k → u.heap.size ≤ k) : Kb b u w :=
  h.of_new hb hg.os hg.tape hg.output hg.size (fun k hk => hg.block k (Nat.lt_of_lt_of_le hk h.size) (fun e => by have := hr k e.symm; omega))
/-- A call that keeps all but b, met behind others. -/
theorem Kb.below {b : Nat} {u v w : World} (h : Kb b u v) (k : Kb b v w) : Kb b u w := h.trans k
/-- A row of memory, made in a stretch of blocks. -/
def RowIn (w : World) (lo hi : Nat) (e : TypeId) (v : Value) (xs : List Value) : Prop := w.ownsRow lo e 1 v xs.length xs ∧ ∀ k, v.ownBlock = some k → k < hi
theorem RowIn.frame {w w' : World} {lo hi : Nat} {e : TypeId} {v : Value} {xs : List Value} (h : RowIn w lo hi e v xs) (hb : ∀ k, lo ≤ k → k < hi → w'.heap[k]? = w.heap[k]?) : RowIn w' lo hi e v xs := by
  refine ⟨⟨h.1.1, ?_⟩, h.2⟩
  rcases h.1.2 with hn | ⟨g, cap, cur, rfl, hg, hgg, rest⟩
  · exact .inl hn
  · exact .inr ⟨g, cap, cur, rfl, hg, (hb g hg (h.2 g rfl)).trans hgg, rest⟩
theorem RowIn.wide {w : World} {lo hi lo' hi' : Nat} {e : TypeId} {v : Value} {xs : List Value} (h : RowIn w lo hi e v xs) (h1 : lo' ≤ lo) (h2 : hi ≤ hi') : RowIn w lo' hi' e v xs :=
  ⟨⟨h.1.1, h.1.2.elim (fun z => Or.inl z) (fun ⟨g, cap, cur, a, b, c⟩ => Or.inr ⟨g, cap, cur, a, Nat.le_trans h1 b, c⟩)⟩, fun k hk => Nat.lt_of_lt_of_le (h.2 k hk) h2⟩
theorem RowIn.nil (w : World) (lo hi : Nat) (e : TypeId) : RowIn w lo hi e (.slice none 0 0) [] := ⟨World.ownsRow_nil _ _ _ _, fun k hk => by simp [Value.ownBlock] at hk⟩
theorem owns_frame {w w' : World} {base : Nat} {e : TypeId} {v : Value} {n : Nat} {xs : List Value} (h : w.ownsRow base e 1 v n xs) (hb : ∀ k, base ≤ k → k < w.heap.size → w'.heap[k]? = w.heap[k]?) : w'.ownsRow base e 1 v n xs := by
  refine ⟨h.1, ?_⟩
  rcases h.2 with hn | ⟨g, cap, cur, rfl, hg, hgg, rest⟩
  · exact .inl hn
  · exact .inr ⟨g, cap, cur, rfl, hg, (hb g hg (Array.getElem?_eq_some_iff.1 hgg).1).trans hgg, rest⟩
theorem owns_form {w : World} {base : Nat} {e : TypeId} {v : Value} {n : Nat} {xs : List Value} (h : w.ownsRow base e 1 v n xs) : ∃ ad cap, v = .slice ad n cap := by
  rcases h.2 with ⟨rfl, rfl⟩ | ⟨g, cap, cur, rfl, _⟩
  · exact ⟨_, _, rfl⟩
  · exact ⟨_, _, rfl⟩
abbrev ptr (q : Nat) : Value := .pointer (some ⟨q, 0, none⟩)
end Go.Proofs.YtdebjhdafnpfkabGreatDoor

namespace Go.Proofs.YtdebjhdafnpfkabGreatDoor
open Go.ChangeShapes Go.WideShapes Go.ChangeAt Go.RowKit
set_option linter.unusedVariables false
theorem bytes_ext {a b : ByteArray} (h : a.data.toList = b.data.toList) : a = b := by
  cases a; cases b
  simp only [ByteArray.mk.injEq]
  exact Array.toList_inj.1 h
theorem toList_beq (a b : ByteArray) : (a.toList == b.toList) = decide (a = b) := by
  rw [Bool.eq_iff_iff]
  simp only [beq_iff_eq, decide_eq_true_eq, ByteArray.toList_eq]
  exact ⟨bytes_ext, fun h => by rw [h]⟩
theorem toList_empty (t : ByteArray) : t.toList.isEmpty = decide (t.size = 0) := by
  rw [Bool.eq_iff_iff, ByteArray.toList_eq, List.isEmpty_iff, decide_eq_true_eq]
  constructor
  · intro h
    have := congrArg List.length h
    simpa using this
  · intro h
    exact List.eq_nil_of_length_eq_zero (by simpa using h)
end Go.Proofs.YtdebjhdafnpfkabGreatDoor

namespace Go.Proofs.YtdebjhdafnpfkabGreatDoor
open Go.ChangeShapes Go.WideShapes Go.ChangeAt Go.RowKit
set_option linter.unusedVariables false
theorem info_string : (Tryz.prog.info? 9).map (fun i => (i.zero, i.size, i.bytes)) = some (some (.string ⟨#[]⟩), 1, 16) := by kernel_rfl
end Go.Proofs.YtdebjhdafnpfkabGreatDoor

namespace Go.Proofs.YtdebjhdafnpfkabGreatDoor
open Go.ChangeShapes Go.WideShapes Go.ChangeAt Go.RowKit
set_option linter.unusedVariables false
theorem true_beq (t : ByteArray) : (t.toList == [116, 114, 117, 101]) = decide (t = trueS) := by
  have h : trueS.toList = [116, 114, 117, 101] := ByteArray.toList_mk [116, 114, 117, 101]
  rw [← h, toList_beq]
theorem false_beq (t : ByteArray) : (t.toList == [102, 97, 108, 115, 101]) = decide (t = falseS) := by
  have h : falseS.toList = [102, 97, 108, 115, 101] := ByteArray.toList_mk [102, 97, 108, 115, 101]
  rw [← h, toList_beq]
end Go.Proofs.YtdebjhdafnpfkabGreatDoor

namespace Go.Proofs.YtdebjhdafnpfkabGreatDoor
open Go.ChangeShapes Go.WideShapes Go.ChangeAt Go.RowKit
set_option linter.unusedVariables false
set_option linter.unusedSimpArgs false
theorem pblanks_any (b : Nat) (s : ByteArray) (a : Nat) (w : World) (hs : s.size ≤ 4000) (ha : a ≤ s.size) (h : PC w b s a) :
    Calls Tryz.prog 45 #[.pointer (some ⟨b, 0, none⟩)] w fun e w' => e = .returned (.tuple #[]) ∧ PC w' b s (scan (blankB false) s a) ∧ Kc b w w' := by
  have h' : Hid (PC w b s a) := h
  clear h
  go_enter Tryz.func45, Tryz.ntmps45
  go_wp2_with fail
  refine (take_isBlank b s a _ hs ha h'.out).mono ?_
  rintro e w1 ⟨rfl, h2, hk2⟩
  go_wp2_with fail
  go_returns
  exact ⟨rfl, h2, hk2⟩
theorem pass_any (b : Nat) (s : ByteArray) (x : St) (c : Nat) (w : World) (hs : s.size ≤ 4000) (he : x.e = 0) (ha : x.a ≤ s.size) (hc : c ≠ 0) (h : PC w b s x.a) :
    Calls Tryz.prog 50 #[.pointer (some ⟨b, 0, none⟩), .int .u8 c] w fun e w' => (e = .returned (.tuple #[]) ∧ POk s b w w' (rmust s x c)) ∨ PBad s b w e w' (rmust s x c) := by
  have h' : Hid (PC w b s x.a) := h
  clear h
  by_cases hh : bt s x.a = c
  · have hl : x.a < s.size := by
      rcases Nat.lt_or_ge x.a s.size with h1 | h1
      · exact h1
      · rw [bt_end s _ h1] at hh; omega
    have t : ((bt s x.a : Int) != (c : Int)) = false := by simp; omega
    have H : Hid (rmust s x c = ⟨x.a + 1, x.e, x.p⟩) := rmust_hit s x c he hc hh
    clear hh
    go_enter Tryz.func50, Tryz.ntmps50
    go_wp2_with fail
    refine (peek_any b s x.a _ hs ha h'.out).mono ?_
    rintro e w1 ⟨rfl, n, rfl⟩
    go_wp2_with fail
    refine (step_any b s x.a _ hs hl (h'.out.drewN n)).mono ?_
    rintro e w1 ⟨rfl, h2, hk2⟩
    go_wp2_with fail
    go_returns
    refine .inl ⟨rfl, ?_⟩
    rw [H.out]
    exact ⟨he, h2, ((Kc.refl _ _).drewN n).trans hk2⟩
  · have t : ((bt s x.a : Int) != (c : Int)) = true := by simp; omega
    have H : Hid (rmust s x c = ⟨x.a, 3, x.a⟩) := rmust_miss s x c he hc hh
    clear hh
    go_enter Tryz.func50, Tryz.ntmps50
    go_wp2_with fail
    refine (peek_any b s x.a _ hs ha h'.out).mono ?_
    rintro e w1 ⟨rfl, n, rfl⟩
    go_wp2_with fail
    refine (fail_any b s x.a 3 _ (h'.out.drewN n)).mono ?_
    rintro e w1 ⟨q, hq⟩
    have he' := hq.e
    subst he'
    refine ⟨rfl, .inr ?_⟩
    rw [H.out]
    exact ⟨by simp, q, hq.trans ((Kb.refl _ _).drewN n)⟩
theorem readName_any (b : Nat) (s : ByteArray) (x : St) (w : World) (hs : s.size ≤ 4000) (he : x.e = 0) (ha : x.a ≤ s.size) (h : PC w b s x.a) :
    Calls Tryz.prog 84 #[.pointer (some ⟨b, 0, none⟩)] w fun e w' => (e = .returned (.string (rname s x).2) ∧ POk s b w w' (rname s x).1) ∨ PBad s b w e w' (rname s x).1 := by
  have h' : Hid (PC w b s x.a) := h
  have H : Hid _ := rname_eq s x he ha
  have hL : Hid (lineAt s (scan letterB s x.a) = lineAt s x.a) := lineAt_scan _ _ (by decide) _
  have h1 := scan_ge letterB s x.a
  have h2 := scan_le letterB s x.a ha
  have hz : Hid ((s.extract x.a (scan letterB s x.a)).size = scan letterB s x.a - x.a) := size_ext _ _ _ h2
  clear h
  go_enter Tryz.func84, Tryz.ntmps84
  go_wp2_with fail
  refine (take_isOfName b s x.a _ hs ha h'.out).mono ?_
  rintro e w1 ⟨rfl, h3, hk3⟩
  have h3' : Hid (PC w1 b s (scan letterB s x.a)) := h3
  clear h3
  have hx : Hid (s.extract x.a (scan letterB s x.a) = (rname s x).2) := by unfold Hid; rw [H.out]
  generalize s.extract x.a (scan letterB s x.a) = t at *
  by_cases hy : scan letterB s x.a = x.a
  · have t0 : t.toList.isEmpty = true := by rw [toList_empty]; exact decide_eq_true (by have := hz.out; omega)
    go_wp2_with fail
    refine (fail_any b s (scan letterB s x.a) 3 _ h3'.out).mono ?_
    rintro e w2 ⟨q, hq⟩
    have he' := hq.e
    subst he'
    refine ⟨rfl, .inr ?_⟩
    rw [H.out, if_pos hy]
    rw [hL.out] at hq
    exact ⟨by simp, q, hq.trans hk3.kb⟩
  · have t0 : t.toList.isEmpty = false := by rw [toList_empty]; exact decide_eq_false (by have := hz.out; omega)
    by_cases h20 : 20 < scan letterB s x.a - x.a
    · have t1 : decide ((t.size : Int) > 20) = true := by have := hz.out; simp; omega
      go_wp2_with fail
      refine (fail_any b s (scan letterB s x.a) 4 _ h3'.out).mono ?_
      rintro e w2 ⟨q, hq⟩
      have he' := hq.e
      subst he'
      refine ⟨rfl, .inr ?_⟩
      rw [H.out, if_neg hy, if_pos h20]
      rw [hL.out] at hq
      exact ⟨by simp, q, hq.trans hk3.kb⟩
    · have t1 : decide ((t.size : Int) > 20) = false := by have := hz.out; simp; omega
      go_wp2_with fail
      go_ret
      refine .inl ?_
      rw [H.out, if_neg hy, if_neg h20]
      exact ⟨rfl, he, h3'.out, hk3⟩
end Go.Proofs.YtdebjhdafnpfkabGreatDoor

namespace Go.Proofs.YtdebjhdafnpfkabGreatDoor
open Go.ChangeShapes Go.WideShapes Go.ChangeAt Go.RowKit
set_option linter.unusedVariables false
set_option linter.unusedSimpArgs false
/-- A name that went well. -/
theorem rname_ok {s : ByteArray} {x : St} (he : x.e = 0) (ha : x.a ≤ s.size) (h : (rname s x).1.e = 0) :
    (rname s x).1 = ⟨scan letterB s x.a, x.e, x.p⟩ ∧ x.a < scan letterB s x.a ∧ scan letterB s x.a ≤ s.size ∧ (rname s x).2 = s.extract x.a (scan letterB s x.a) ∧ lineAt s (scan letterB s x.a) = lineAt s x.a := by
  have h1 := scan_ge letterB s x.a
  have h2 := scan_le letterB s x.a ha
  rw [rname_eq s x he ha] at h ⊢
  by_cases hy : scan letterB s x.a = x.a
  · rw [if_pos hy] at h; cases h
  · rw [if_neg hy] at h ⊢
    by_cases h20 : 20 < scan letterB s x.a - x.a
    · rw [if_pos h20] at h; cases h
    · rw [if_neg h20]
      exact ⟨rfl, by omega, h2, rfl, lineAt_scan _ _ (by decide) _⟩
/-- Behind a name that went well. -/
def pathRest (s : ByteArray) (n : Nat) (y : St) (l : List ByteArray) : St × List ByteArray :=
  if ris s y 46 = true then rpathLoop s n ⟨y.a + 1, y.e, y.p⟩ l else (y, l)
theorem rpathLoop_succ (s : ByteArray) (n : Nat) (x : St) (l : List ByteArray) : rpathLoop s (n + 1) x l = pathRest s n (rname s x).1 (l ++ [(rname s x).2]) := rfl
theorem rpath_eq (s : ByteArray) (x : St) : rpath s x = (if 4 < (rpathLoop s (s.size + 1 - x.a) x []).2.length then rno (rpathLoop s (s.size + 1 - x.a) x []).1 4 x.a else (rpathLoop s (s.size + 1 - x.a) x []).1, (rpathLoop s (s.size + 1 - x.a) x []).2) := rfl
/-- Where a name is wrong. -/
theorem rpath_bad {s : ByteArray} {x y : St} {n : Nat} {l : List ByteArray} (h : rpathLoop s (s.size + 1 - x.a) x [] = pathRest s n y l) (hy : y.e ≠ 0) : (rpath s x).1 = y := by
  rw [rpath_eq, h]
  unfold pathRest
  rw [ris_off s y 46 hy]
  simp only [Bool.false_eq_true, if_false]
  split
  · exact rno_off _ _ _ hy
  · rfl
set_option maxHeartbeats 2000000 in
theorem readPath_any (b : Nat) (s : ByteArray) (x : St) (w : World) (hs : s.size ≤ 4000) (he : x.e = 0) (ha : x.a ≤ s.size) (h : PC w b s x.a) :
    Calls Tryz.prog 74 #[.pointer (some ⟨b, 0, none⟩)] w fun e w' => (e = .returned (.string (jn (rpath s x).2)) ∧ POk s b w w' (rpath s x).1 ∧ lineAt s (rpath s x).1.a = lineAt s x.a ∧ (jn (rpath s x).2).size ≤ s.size) ∨ PBad s b w e w' (rpath s x).1 := by
  have h' : Hid (PC w b s x.a) := h
  have hA := h.A
  clear h
  obtain ⟨n, hn⟩ : ∃ n, s.size + 1 - x.a = n + 1 := ⟨s.size - x.a, by omega⟩
  have H0 : Hid (rpathLoop s (s.size + 1 - x.a) x [] = pathRest s n (rname s x).1 [(rname s x).2]) := by
    unfold Hid
    rw [hn, rpathLoop_succ]
    rfl
  go_enter Tryz.func74, Tryz.ntmps74
  go_wp2_with fail
  refine (readName_any b s x _ hs he ha h'.out).mono ?_
  rintro e w1 (⟨rfl, hok⟩ | hbad)
  · obtain ⟨r1, r2, r3, r4, r5⟩ := rname_ok he ha hok.e
    have hok' : Hid (PC w1 b s (rname s x).1.a ∧ Kc b w w1) := ⟨hok.pc, hok.kc⟩
    have hey := hok.e
    clear hok
    have R : Hid ((rname s x).1 = ⟨scan letterB s x.a, x.e, x.p⟩ ∧ (rname s x).2 = s.extract x.a (scan letterB s x.a) ∧ lineAt s (scan letterB s x.a) = lineAt s x.a) := ⟨r1, r4, r5⟩
    clear r1 r4 r5
    go_wp2_with fail
    go_loopw [4] (fun u4 wr => ∃ (n : Nat) (y : St) (l : List ByteArray), Hid (rpathLoop s (s.size + 1 - x.a) x [] = pathRest s n y l) ∧ Hid (y.e = 0) ∧ Hid (PC wr b s y.a) ∧ Kc b w wr ∧
        y.a ≤ s.size ∧ x.a ≤ y.a ∧ s.size + 1 ≤ n + y.a ∧ l.length ≤ y.a ∧ Hid (l ≠ []) ∧ Hid (s.extract x.a y.a = jn l) ∧ Hid (lineAt s y.a = lineAt s x.a) ∧ u4 = .int .i64 l.length) (fun _ wr => s.size - atOf wr b)
    case atStart =>
      refine ⟨n, (rname s x).1, [(rname s x).2], H0, hey, hok'.out.1, hok'.out.2, ?_, ?_, ?_, ?_, by simp [Hid], ?_, ?_, rfl⟩
      · rw [R.out.1]; exact r3
      · rw [R.out.1]; show x.a ≤ scan letterB s x.a; omega
      · rw [R.out.1]; show s.size + 1 ≤ n + scan letterB s x.a; omega
      · rw [R.out.1]; show 1 ≤ scan letterB s x.a; omega
      · unfold Hid; rw [R.out.1, R.out.2.1]; rfl
      · unfold Hid; rw [R.out.1]; exact R.out.2.2
    case round =>
      clear h' hA hok' H0 R r2 r3 hey hn
      obtain ⟨n, y, l, hr, hy0, h1, hk, hy1, hy2, hn, hll, hl0, hj, hli, rfl⟩ := hrel
      obtain ⟨hT, hA, hL, hF, hlt⟩ := h1.out
      by_cases hd : bt s y.a = 46
      · have t : ((bt s y.a : Int) == 46) = true := by simp; omega
        have D : Hid (bt s y.a = 46) := hd
        have hlt2 : y.a < s.size := by
          rcases Nat.lt_or_ge y.a s.size with h1 | h1
          · exact h1
          · rw [bt_end s _ h1] at hd; omega
        clear hd
        go_wp2_with fail
        refine (peek_any b s y.a _ hs hy1 h1.out).mono ?_
        rintro e w2 ⟨rfl, m, rfl⟩
        go_wp2_with fail
        refine (step_any b s y.a _ hs hlt2 (h1.out.drewN m)).mono ?_
        rintro e w2 ⟨rfl, h2, hk2⟩
        have h2' : Hid (PC w2 b s (y.a + 1)) := h2
        clear h2
        go_wp2_with fail
        refine (readName_any b s ⟨y.a + 1, y.e, y.p⟩ _ hs hy0.out (by show y.a + 1 ≤ _; omega) h2'.out).mono ?_
        obtain ⟨n', hn'⟩ : ∃ n', n = n' + 1 := ⟨n - 1, by omega⟩
        have Hn : Hid (rpathLoop s (s.size + 1 - x.a) x [] = pathRest s n' (rname s ⟨y.a + 1, y.e, y.p⟩).1 (l ++ [(rname s ⟨y.a + 1, y.e, y.p⟩).2])) := by
          unfold Hid
          rw [hr.out, pathRest, ris_pk s y 46 hy0.out (by decide), D.out, hn']
          rfl
        have hL2 : Hid (lineAt s (y.a + 1) = lineAt s x.a) := by
          show (if bt s y.a = 10 then _ else _) = _
          rw [if_neg (by rw [D.out]; decide)]
          exact hli.out
        rintro e w3 (⟨rfl, hok⟩ | hbad)
        · obtain ⟨r1, r2, r3, r4, r5⟩ := rname_ok (x := ⟨y.a + 1, y.e, y.p⟩) hy0.out (by show y.a + 1 ≤ _; omega) hok.e
          have R : Hid ((rname s ⟨y.a + 1, y.e, y.p⟩).1 = ⟨scan letterB s (y.a + 1), y.e, y.p⟩ ∧ (rname s ⟨y.a + 1, y.e, y.p⟩).2 = s.extract (y.a + 1) (scan letterB s (y.a + 1)) ∧ lineAt s (scan letterB s (y.a + 1)) = lineAt s (y.a + 1)) := ⟨r1, r4, r5⟩
          clear r1 r4 r5
          have hok' : Hid (PC w3 b s (rname s ⟨y.a + 1, y.e, y.p⟩).1.a ∧ Kc b w2 w3) := ⟨hok.pc, hok.kc⟩
          have hey : Hid ((rname s ⟨y.a + 1, y.e, y.p⟩).1.e = 0) := hok.e
          clear hok
          simp only at r2 r3
          go_wp2_with fail
          go_roundw
          case rel =>
            refine ⟨n', (rname s ⟨y.a + 1, y.e, y.p⟩).1, l ++ [(rname s ⟨y.a + 1, y.e, y.p⟩).2], Hn, hey, hok'.out.1, ((hk.drewN m).trans hk2).trans hok'.out.2, ?_, ?_, ?_, ?_, by simp [Hid], ?_, ?_, by simp⟩
            · rw [R.out.1]; exact r3
            · rw [R.out.1]; show x.a ≤ scan letterB s (y.a + 1); omega
            · rw [R.out.1]; show s.size + 1 ≤ n' + scan letterB s (y.a + 1); omega
            · rw [R.out.1]; show (l ++ [(rname s ⟨y.a + 1, y.e, y.p⟩).2]).length ≤ scan letterB s (y.a + 1); rw [List.length_append, List.length_singleton]; omega
            · unfold Hid
              rw [R.out.1, R.out.2.1, jn_snoc _ _ hl0.out, ← hj.out]
              show s.extract x.a (scan letterB s (y.a + 1)) = _
              rw [ext_glue s x.a (y.a + 1) _ (by omega) (by omega), ext_glue s x.a y.a (y.a + 1) (by omega) (by omega), ext_one s y.a D.out]
            · unfold Hid; rw [R.out.1]; exact R.out.2.2.trans hL2.out
          case measure =>
            rw [hok'.out.1.atOf, h1.out.atOf, R.out.1]
            show s.size - scan letterB s (y.a + 1) < _
            omega
        · obtain ⟨hb, q, hq⟩ := hbad
          have he' := hq.e
          subst he'
          refine ⟨rfl, .inr ?_⟩
          rw [rpath_bad Hn.out hb]
          exact ⟨hb, q, (hq.trans hk2.kb).trans (hk.kb.drewN m)⟩
      · have t : ((bt s y.a : Int) == 46) = false := by simp; omega
        have D : Hid (rpath s x = (if 4 < l.length then rno y 4 x.a else y, l)) := by
          unfold Hid
          rw [rpath_eq, hr.out, pathRest, ris_pk s y 46 hy0.out (by decide)]
          simp only [decide_eq_true_eq, if_neg hd]
        clear hd
        by_cases h4 : 4 < l.length
        · have t1 : decide ((l.length : Int) > 4) = true := by simp; omega
          go_wp2_with fail
          refine (peek_any b s y.a _ hs hy1 h1.out).mono ?_
          rintro e w2 ⟨rfl, m, rfl⟩
          go_wp2_with fail
          refine (fail_any b s y.a 4 _ (h1.out.drewN m)).mono ?_
          rintro e w2 ⟨q, hq⟩
          have he' := hq.e
          subst he'
          refine ⟨rfl, .inr ?_⟩
          rw [D.out, if_pos h4, rno_on _ _ _ hy0.out]
          rw [hli.out] at hq
          exact ⟨by simp, q, hq.trans (hk.kb.drewN m)⟩
        · have t1 : decide ((l.length : Int) > 4) = false := by simp; omega
          go_wp2_with fail
          refine (peek_any b s y.a _ hs hy1 h1.out).mono ?_
          rintro e w2 ⟨rfl, m, rfl⟩
          go_wp2_with fail
          go_quiet (fail)
          go_wp2
          go_ret
          refine .inl ?_
          rw [D.out, if_neg h4]
          exact ⟨ret_str' hj.out, ⟨hy0.out, (h1.out.drewN m).drewN _, (hk.drewN m).drewN _⟩, hli.out, by rw [← hj.out, ByteArray.size_extract]; omega⟩
  · obtain ⟨hb, q, hq⟩ := hbad
    have he' := hq.e
    subst he'
    refine ⟨rfl, .inr ?_⟩
    rw [rpath_bad H0.out hb]
    exact ⟨hb, q, hq⟩
end Go.Proofs.YtdebjhdafnpfkabGreatDoor
