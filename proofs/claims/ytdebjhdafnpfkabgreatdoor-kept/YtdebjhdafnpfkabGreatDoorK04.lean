import Derived.Test.YtdebjhdafnpfkabGreatDoorK03
import Derived.Test.YtdebjhdafnpfkabGreatDoorK01
import Derived.Test.YtdebjhdafnpfkabGreatDoorK02
import Derived.Lib.Builder
import Derived.Below
namespace Go.Proofs.YtdebjhdafnpfkabGreatDoor
open Go.ChangeShapes Go.WideShapes Go.ChangeAt Go.RowKit
set_option linter.unusedVariables false
set_option linter.unusedSimpArgs false
theorem readEscaped_any (b : Nat) (s : ByteArray) (x : St) (w : World) (hs : s.size ≤ 4000) (he : x.e = 0) (ha : x.a ≤ s.size) (h : PC w b s x.a) :
    Calls Tryz.prog 107 #[.pointer (some ⟨b, 0, none⟩)] w fun e w' =>
      (e = .returned (.int .u8 (resc s x)) ∧ POk s b w w' ⟨(rescSt s x).a + 1, (rescSt s x).e, (rescSt s x).p⟩) ∨ PBad s b w e w' ⟨(rescSt s x).a + 1, (rescSt s x).e, (rescSt s x).p⟩ := by
  have h' : Hid (PC w b s x.a) := h
  clear h
  rw [resc_eq s x he]
  cases hb : escB (bt s x.a)
  · have H : Hid (rescSt s x = ⟨x.a, 3, x.a⟩) := rescSt_bad s x he hb
    have hn : ¬ (bt s x.a = 92 ∨ bt s x.a = 34 ∨ bt s x.a = 110 ∨ bt s x.a = 116) := by simpa [escB] using hb
    have t1 : ((bt s x.a : Int) == 92) = false := by simp; omega
    have t2 : ((bt s x.a : Int) == 34) = false := by simp; omega
    have t3 : ((bt s x.a : Int) == 110) = false := by simp; omega
    have t4 : ((bt s x.a : Int) == 116) = false := by simp; omega
    clear hn hb
    go_enter Tryz.func107, Tryz.ntmps107
    go_wp2_with fail
    refine (peek_any b s x.a _ hs ha h'.out).mono ?_
    rintro e w1 ⟨rfl, n, rfl⟩
    go_wp2_with fail
    refine (fail_any b s x.a 3 _ (h'.out.drewN n)).mono ?_
    rintro e w1 ⟨q, hq⟩
    have he' := hq.e
    subst he'
    refine ⟨rfl, .inr ?_⟩
    rw [H.out]
    exact ⟨by simp, q, hq.trans ((Kb.refl _ _).drewN n)⟩
  · have H : Hid (rescSt s x = x) := rescSt_ok s x he hb
    have hn : bt s x.a = 92 ∨ bt s x.a = 34 ∨ bt s x.a = 110 ∨ bt s x.a = 116 := by simpa [escB] using hb
    have hl : x.a < s.size := by
      rcases Nat.lt_or_ge x.a s.size with h1 | h1
      · exact h1
      · rw [bt_end s _ h1] at hn; omega
    have E : Hid (bt s x.a = 92 ∨ bt s x.a = 34 ∨ bt s x.a = 110 ∨ bt s x.a = 116) := hn
    clear hb
    by_cases c1 : bt s x.a = 34
    · have t2 : ((bt s x.a : Int) == 34) = true := by simp; omega
      have R : Hid (escN (bt s x.a) = bt s x.a) := by unfold Hid; rw [c1]; rfl
      clear hn c1
      go_enter Tryz.func107, Tryz.ntmps107
      go_wp2_with fail
      refine (peek_any b s x.a _ hs ha h'.out).mono ?_
      rintro e w1 ⟨rfl, n, rfl⟩
      go_wp2_with fail
      refine (step_any b s x.a _ hs hl (h'.out.drewN n)).mono ?_
      rintro e w1 ⟨rfl, h2, hk2⟩
      go_wp2_with fail
      go_ret
      refine .inl ⟨ret_u8 (by rw [R.out]), ?_⟩
      rw [H.out]
      exact ⟨he, h2, ((Kc.refl _ _).drewN n).trans hk2⟩
    · have t2 : ((bt s x.a : Int) == 34) = false := by simp; omega
      by_cases c2 : bt s x.a = 92
      · have t1 : ((bt s x.a : Int) == 92) = true := by simp; omega
        have R : Hid (escN (bt s x.a) = bt s x.a) := by unfold Hid; rw [c2]; rfl
        clear hn c1 c2
        go_enter Tryz.func107, Tryz.ntmps107
        go_wp2_with fail
        refine (peek_any b s x.a _ hs ha h'.out).mono ?_
        rintro e w1 ⟨rfl, n, rfl⟩
        go_wp2_with fail
        refine (step_any b s x.a _ hs hl (h'.out.drewN n)).mono ?_
        rintro e w1 ⟨rfl, h2, hk2⟩
        go_wp2_with fail
        go_ret
        refine .inl ⟨ret_u8 (by rw [R.out]), ?_⟩
        rw [H.out]
        exact ⟨he, h2, ((Kc.refl _ _).drewN n).trans hk2⟩
      · have t1 : ((bt s x.a : Int) == 92) = false := by simp; omega
        by_cases c3 : bt s x.a = 110
        · have t3 : ((bt s x.a : Int) == 110) = true := by simp; omega
          have R : Hid (escN (bt s x.a) = 10) := by unfold Hid; rw [c3]; rfl
          clear hn c1 c2 c3
          go_enter Tryz.func107, Tryz.ntmps107
          go_wp2_with fail
          refine (peek_any b s x.a _ hs ha h'.out).mono ?_
          rintro e w1 ⟨rfl, n, rfl⟩
          go_wp2_with fail
          refine (step_any b s x.a _ hs hl (h'.out.drewN n)).mono ?_
          rintro e w1 ⟨rfl, h2, hk2⟩
          go_wp2_with fail
          go_ret
          refine .inl ⟨ret_u8 (by rw [R.out]; rfl), ?_⟩
          rw [H.out]
          exact ⟨he, h2, ((Kc.refl _ _).drewN n).trans hk2⟩
        · have t3 : ((bt s x.a : Int) == 110) = false := by simp; omega
          have c4 : bt s x.a = 116 := by omega
          have t4 : ((bt s x.a : Int) == 116) = true := by simp; omega
          have R : Hid (escN (bt s x.a) = 9) := by unfold Hid; rw [c4]; rfl
          clear hn c1 c2 c3 c4
          go_enter Tryz.func107, Tryz.ntmps107
          go_wp2_with fail
          refine (peek_any b s x.a _ hs ha h'.out).mono ?_
          rintro e w1 ⟨rfl, n, rfl⟩
          go_wp2_with fail
          refine (step_any b s x.a _ hs hl (h'.out.drewN n)).mono ?_
          rintro e w1 ⟨rfl, h2, hk2⟩
          go_wp2_with fail
          go_ret
          refine .inl ⟨ret_u8 (by rw [R.out]; rfl), ?_⟩
          rw [H.out]
          exact ⟨he, h2, ((Kc.refl _ _).drewN n).trans hk2⟩
theorem readLetter_any (b : Nat) (s : ByteArray) (x : St) (w : World) (hs : s.size ≤ 4000) (he : x.e = 0) (ha : x.a ≤ s.size) (h : PC w b s x.a) :
    Calls Tryz.prog 98 #[.pointer (some ⟨b, 0, none⟩)] w fun e w' =>
      (e = .returned (.int .u8 (rletter s x).2) ∧ POk s b w w' (rletter s x).1) ∨ PBad s b w e w' (rletter s x).1 := by
  have h' : Hid (PC w b s x.a) := h
  clear h
  by_cases h1 : s.size ≤ x.a ∨ bt s x.a < 32
  · have hb : bt s x.a < 32 := by
      rcases h1 with h1 | h1
      · rw [bt_end s _ h1]; omega
      · exact h1
    have t : decide ((bt s x.a : Int) < 32) = true := by simp; omega
    have H : Hid (rletter s x = (⟨x.a, 3, x.a⟩, 0)) := by unfold Hid rletter; rw [if_pos h1, rno_on _ _ _ he]
    clear h1
    go_enter Tryz.func98, Tryz.ntmps98
    go_wp2_with fail
    refine (peek_any b s x.a _ hs ha h'.out).mono ?_
    rintro e w1 ⟨rfl, n, rfl⟩
    go_wp2_with fail
    refine (fail_any b s x.a 3 _ (h'.out.drewN n)).mono ?_
    rintro e w1 ⟨q, hq⟩
    have he' := hq.e
    subst he'
    refine ⟨rfl, .inr ?_⟩
    rw [H.out]
    exact ⟨by simp, q, hq.trans ((Kb.refl _ _).drewN n)⟩
  · have hl : x.a < s.size := by omega
    have hb : ¬ bt s x.a < 32 := by omega
    have t : decide ((bt s x.a : Int) < 32) = false := by simp; omega
    by_cases h92 : bt s x.a = 92
    · have t1 : ((bt s x.a : Int) == 92) = true := by simp; omega
      have H : Hid (rletter s x = (⟨(rescSt s ⟨x.a + 1, x.e, x.p⟩).a + 1, (rescSt s ⟨x.a + 1, x.e, x.p⟩).e, (rescSt s ⟨x.a + 1, x.e, x.p⟩).p⟩, resc s ⟨x.a + 1, x.e, x.p⟩)) := by unfold Hid rletter; rw [if_neg h1, if_pos h92]
      clear h1 hb h92
      go_enter Tryz.func98, Tryz.ntmps98
      go_wp2_with fail
      refine (peek_any b s x.a _ hs ha h'.out).mono ?_
      rintro e w1 ⟨rfl, n, rfl⟩
      go_wp2_with fail
      refine (step_any b s x.a _ hs hl (h'.out.drewN n)).mono ?_
      rintro e w1 ⟨rfl, h2, hk2⟩
      have h2' : Hid (PC w1 b s (x.a + 1)) := h2
      clear h2
      go_wp2_with fail
      refine (readEscaped_any b s ⟨x.a + 1, x.e, x.p⟩ _ hs he (by show x.a + 1 ≤ _; omega) h2'.out).mono ?_
      rintro e w3 (⟨rfl, hok⟩ | ⟨hb, q, hq⟩)
      · have hok' : Hid _ := hok
        clear hok
        go_wp2_with fail
        go_ret
        refine .inl ?_
        rw [H.out]
        exact ⟨ret_u8 (by rw [he]), hok'.out.e, hok'.out.pc, (((Kc.refl _ _).drewN n).trans hk2).trans hok'.out.kc⟩
      · have he' := hq.e
        subst he'
        refine ⟨rfl, .inr ?_⟩
        rw [H.out]
        exact ⟨hb, q, (hq.trans hk2.kb).trans ((Kb.refl _ _).drewN n)⟩
    · have t1 : ((bt s x.a : Int) == 92) = false := by simp; omega
      have H : Hid (rletter s x = (⟨x.a + 1, x.e, x.p⟩, bt s x.a)) := by unfold Hid rletter; rw [if_neg h1, if_neg h92]
      clear h1 hb h92
      go_enter Tryz.func98, Tryz.ntmps98
      go_wp2_with fail
      refine (peek_any b s x.a _ hs ha h'.out).mono ?_
      rintro e w1 ⟨rfl, n, rfl⟩
      go_wp2_with fail
      refine (step_any b s x.a _ hs hl (h'.out.drewN n)).mono ?_
      rintro e w1 ⟨rfl, h2, hk2⟩
      go_wp2_with fail
      go_ret
      refine .inl ?_
      rw [H.out]
      exact ⟨rfl, he, h2, ((Kc.refl _ _).drewN n).trans hk2⟩
theorem checkNest_any (b : Nat) (s : ByteArray) (a nest : Nat) (w : World) (hn : nest ≤ 6) (h : PC w b s a) :
    Calls Tryz.prog 87 #[.pointer (some ⟨b, 0, none⟩), .int .i64 nest] w fun e w' =>
      (nest < 6 ∧ e = .returned (.tuple #[]) ∧ w' = w) ∨ (6 ≤ nest ∧ ∃ q, Pan b w e w' 5 (lineAt s a) q) := by
  by_cases h6 : nest < 6
  · have t : decide ((nest : Int) ≥ 6) = false := by simp; omega
    go_enter Tryz.func87, Tryz.ntmps87
    go_wp2_with fail
    go_returns
    exact .inl ⟨h6, rfl, rfl⟩
  · have t : decide ((nest : Int) ≥ 6) = true := by simp; omega
    have h' : Hid (PC w b s a) := h
    clear h
    go_enter Tryz.func87, Tryz.ntmps87
    go_wp2_with fail
    refine (fail_any b s a 5 _ h'.out).mono ?_
    rintro e w1 ⟨q, hq⟩
    have he' := hq.e
    subst he'
    exact ⟨rfl, .inr ⟨by omega, q, hq⟩⟩
end Go.Proofs.YtdebjhdafnpfkabGreatDoor

namespace Go.Proofs.YtdebjhdafnpfkabGreatDoor
open Go.ChangeShapes Go.WideShapes Go.ChangeAt Go.RowKit
set_option linter.unusedVariables false
set_option linter.unusedSimpArgs false
theorem Kc.of_new {b : Nat} {u v w : World} (h : Kc b u v) (hb : b < u.heap.size) (ho : w.os = v.os) (ht : w.tape = v.tape) (hp : w.output = v.output) (hz : v.heap.size ≤ w.heap.size)
    (hk : ∀ k, k < u.heap.size → w.heap[k]? = v.heap[k]?) : Kc b u w :=
  ⟨h.kb.of_new hb ho ht hp hz hk, fun o h1 h2 => (World.cell?_of_block (w := v) (hk b hb)).trans (h.off o h1 h2)⟩
theorem Kc.below {b B : Nat} {u v w : World} (h : Kc b u v) (hb : b < u.heap.size) (hB : u.heap.size ≤ B) (k : Below B v w) : Kc b u w :=
  h.of_new hb k.os k.tape k.output k.size (fun i hi => k.block i (Nat.lt_of_lt_of_le hi hB))
theorem Kc.grown {b : Nat} {u v w : World} {row : Option Nat} (h : Kc b u v) (hb : b < u.heap.size) (hg : v.grownBy w row) (hr : ∀ k, row = some k → u.heap.size ≤ k) : Kc b u w :=
  h.of_new hb hg.os hg.tape hg.output hg.size (fun k hk => hg.block k (Nat.lt_of_lt_of_le hk h.kb.size) (fun e => by have := hr k e.symm; omega))
theorem PC.below {w w' : World} {b B : Nat} {s : ByteArray} {a : Nat} (h : PC w b s a) (hb : b < B) (k : Below B w w') : PC w' b s a := h.of_block (k.block b hb) k.size
theorem PC.grown {w w' : World} {b : Nat} {s : ByteArray} {a : Nat} {row : Option Nat} (h : PC w b s a) (hg : w.grownBy w' row) (hr : some b ≠ row) : PC w' b s a :=
  h.of_block (hg.block b h.lt hr) hg.size
theorem builder_frame {T e : TypeId} {B q : Nat} {bs : List Value} {w w' : World} (h : Lib.IsBuilder T e B q bs w) (hb : ∀ k, B ≤ k → k < w.heap.size → w'.heap[k]? = w.heap[k]?) : Lib.IsBuilder T e B q bs w' := by
  have one : ∀ p, Lib.BuilderAt T e B q p bs w → Lib.BuilderAt T e B q p bs w' := by
    rintro p ⟨h1, v, h2, h3, h4⟩
    exact ⟨h1, v, (hb q h1 (Array.getElem?_eq_some_iff.1 h2).1).trans h2, owns_frame h3 hb, h4⟩
  rcases h with h | h
  · exact .inl (one _ h)
  · exact .inr (one _ h)
theorem builder_kc {T e : TypeId} {b B q : Nat} {bs : List Value} {w w' : World} (h : Lib.IsBuilder T e B q bs w) (hk : Kc b w w') (hb : b < B) : Lib.IsBuilder T e B q bs w' :=
  builder_frame h (fun k h1 h2 => hk.kb.block k h2 (by omega))
/-- Bytes as cells. -/
theorem put_toList (t : ByteArray) (c : Nat) : (put t c).data.toList = t.data.toList ++ [UInt8.ofNat c] := by
  show (t ++ (⟨#[UInt8.ofNat c]⟩ : ByteArray)).data.toList = _
  simp
theorem pput_size (t : ByteArray) (c : Nat) : (put t c).size = t.size + 1 := by
  unfold put
  rw [ByteArray.size_append]
  rfl
end Go.Proofs.YtdebjhdafnpfkabGreatDoor
