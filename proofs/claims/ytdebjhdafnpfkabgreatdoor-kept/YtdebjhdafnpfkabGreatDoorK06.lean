import Derived.Test.YtdebjhdafnpfkabGreatDoorK04
import Derived.Test.YtdebjhdafnpfkabGreatDoorK05
import Derived.Test.YtdebjhdafnpfkabGreatDoorK01
import Derived.Lib.Replace
import Derived.Lib.SlTrimSet
namespace Go.Proofs.YtdebjhdafnpfkabGreatDoor
open Go.ChangeShapes Go.WideShapes Go.ChangeAt Go.RowKit
set_option linter.unusedVariables false
set_option linter.unusedSimpArgs false
theorem bt_lt' (s : ByteArray) (a c : Nat) (h : bt s a = c) (hc : c ≠ 0) : a < s.size := by
  rcases Nat.lt_or_ge a s.size with h1 | h1
  · exact h1
  · rw [bt_end s _ h1] at h; omega
theorem rletter_ok {s : ByteArray} {y : St} (he : y.e = 0) (h : (rletter s y).1.e = 0) : y.a < (rletter s y).1.a ∧ (rletter s y).1.a ≤ s.size ∧ (rletter s y).2 < 256 := by
  have hb := bt_lt s y.a
  unfold rletter at *
  by_cases h1 : s.size ≤ y.a ∨ bt s y.a < 32
  · rw [if_pos h1, rno_on _ _ _ he] at h; cases h
  · rw [if_neg h1] at h ⊢
    by_cases h2 : bt s y.a = 92
    · rw [if_pos h2] at h ⊢
      cases hE : escB (bt s (y.a + 1))
      · rw [rescSt_bad s ⟨y.a + 1, y.e, y.p⟩ he hE] at h
        cases h
      · rw [rescSt_ok s ⟨y.a + 1, y.e, y.p⟩ he hE, resc_eq s ⟨y.a + 1, y.e, y.p⟩ he]
        have hn : bt s (y.a + 1) = 92 ∨ bt s (y.a + 1) = 34 ∨ bt s (y.a + 1) = 110 ∨ bt s (y.a + 1) = 116 := by simpa [escB] using hE
        have hl : y.a + 1 < s.size := bt_lt' s _ _ rfl (by omega)
        refine ⟨by show y.a < y.a + 1 + 1; omega, by show y.a + 1 + 1 ≤ _; omega, ?_⟩
        show escN (bt s (y.a + 1)) < 256
        unfold escN
        split
        · omega
        · split
          · omega
          · split
            · omega
            · split
              · omega
              · omega
    · rw [if_neg h2]
      exact ⟨by show y.a < y.a + 1; omega, by show y.a + 1 ≤ _; omega, hb⟩
theorem byteCells_put (t : ByteArray) (c : Nat) (hc : c < 256) : Lib.byteCells (put t c).data.toList = Lib.byteCells t.data.toList ++ [.int .u8 c] := by
  rw [put_toList]
  simp only [Lib.byteCells, List.map_append, List.map_cons, List.map_nil]
  congr 2
  simp
  omega
theorem byteCells_len (t : ByteArray) : (Lib.byteCells t.data.toList).length = t.size := by
  simp only [Lib.byteCells, List.length_map]
  exact Array.length_toList
theorem rtext_eq (s : ByteArray) (x : St) : rtext s x = ((rtextLoop s (s.size + 3 - x.a) (rmust s x 34) ⟨#[]⟩).1, ⟨115, 0, (rtextLoop s (s.size + 3 - x.a) (rmust s x 34) ⟨#[]⟩).2, [], []⟩) := rfl
set_option maxHeartbeats 2000000 in
theorem readText_any (b : Nat) (s : ByteArray) (x : St) (w : World) (hs : s.size ≤ 4000) (he : x.e = 0) (hq : bt s x.a = 34) (h : PC w b s x.a) :
    Calls Tryz.prog 86 #[.pointer (some ⟨b, 0, none⟩)] w fun e w' => (e = .returned (.string (rtext s x).2.s) ∧ POk s b w w' (rtext s x).1) ∨ PBad s b w e w' (rtext s x).1 := by
  have ha := bt_lt' s x.a 34 hq (by decide)
  have h' : Hid (PC w b s x.a) := h
  have hltw := h.lt
  clear h
  have M : Hid (rmust s x 34 = ⟨x.a + 1, x.e, x.p⟩) := rmust_hit s x 34 he (by decide) hq
  have R0 : Hid (rtext s x = ((rtextLoop s (s.size + 3 - x.a) ⟨x.a + 1, x.e, x.p⟩ ⟨#[]⟩).1, ⟨115, 0, (rtextLoop s (s.size + 3 - x.a) ⟨x.a + 1, x.e, x.p⟩ ⟨#[]⟩).2, [], []⟩)) := by
    unfold Hid
    rw [rtext_eq, M.out]
  have HE : Hid (x.e = 0) := he
  clear he hq
  go_enter Tryz.func86, Tryz.ntmps86
  go_wp2_with fail
  refine (pass_any b s x 34 _ hs HE.out (by omega) (by decide) h'.out).mono ?_
  rintro e w1 (⟨rfl, hok⟩ | ⟨hb, _⟩)
  · rw [M.out] at hok
    have hok' : Hid (POk s b w w1 ⟨x.a + 1, x.e, x.p⟩) := hok
    have hlt1 := hok.pc.lt
    have hz1 := hok.kc.kb.size
    clear hok
    go_wp2_with fail
    go_loopw [] (fun wr => ∃ (n : Nat) (y : St) (t : ByteArray), Hid (rtextLoop s (s.size + 3 - x.a) ⟨x.a + 1, x.e, x.p⟩ ⟨#[]⟩ = rtextLoop s (n + 1) y t) ∧ Hid (y.e = 0) ∧ Hid (PC wr b s y.a) ∧ Hid (Kc b w wr) ∧
        y.a ≤ s.size ∧ s.size + 3 ≤ n + y.a ∧ t.size ≤ y.a ∧ Hid (Lib.IsBuilder 86 5 w1.heap.size w1.heap.size (Lib.byteCells t.data.toList) wr) ∧ w1.heap.size < wr.heap.size) (fun wr => s.size - atOf wr b)
    case atStart =>
      refine ⟨s.size + 2 - x.a, ⟨x.a + 1, x.e, x.p⟩, ⟨#[]⟩, ?_, HE.out, hok'.out.pc.alloc _, hok'.out.kc.alloc hlt1 _, ?_, ?_, Nat.zero_le _, Lib.fresh_isBuilder _ _ _, by simp⟩
      · unfold Hid; rw [show s.size + 2 - x.a + 1 = s.size + 3 - x.a by omega]
      · show x.a + 1 ≤ _; omega
      · show s.size + 3 ≤ s.size + 2 - x.a + (x.a + 1); omega
    case round =>
      clear h' hok' M
      obtain ⟨n, y, t, hr, hy0, h1, hk, hy1, hn, htt, hB, hz⟩ := hrel
      by_cases hd : bt s y.a = 34
      · have t0 : ((bt s y.a : Int) != 34) = false := by simp; omega
        have D : Hid (rtext s x = (⟨y.a + 1, y.e, y.p⟩, ⟨115, 0, t, [], []⟩)) := by
          unfold Hid
          rw [R0.out, hr.out, textLoop_end _ _ _ _ hy0.out hd]
        have M2 : Hid (rmust s y 34 = ⟨y.a + 1, y.e, y.p⟩) := rmust_hit s y 34 hy0.out (by decide) hd
        clear hd
        go_wp2_with fail
        refine (peek_any b s y.a _ hs hy1 h1.out).mono ?_
        rintro e w2 ⟨rfl, m, rfl⟩
        go_wp2_with fail
        refine (pass_any b s y 34 _ hs hy0.out hy1 (by decide) (h1.out.drewN m)).mono ?_
        rintro e w3 (⟨rfl, hok⟩ | ⟨hb, _⟩)
        · rw [M2.out] at hok
          have hok' : Hid (POk s b (wr.drewN m) w3 ⟨y.a + 1, y.e, y.p⟩) := hok
          have hz3 := hok.kc.kb.size
          have hB3 : Hid (Lib.IsBuilder 86 5 w1.heap.size w1.heap.size (Lib.byteCells t.data.toList) w3) := builder_kc (b := b) hB.out (((Kc.refl b wr).drewN m).trans hok.kc) hlt1
          clear hok
          go_wp2_with fail
          refine (Tryz.Builder_String_any w1.heap.size w1.heap.size t.data.toList _ hB3.out (by rw [World.heap_drewN] at hz3; omega)).mono ?_
          rintro e w4 ⟨rfl, hbel⟩
          have hbel' : Hid (Below w1.heap.size w3 w4) := hbel
          clear hbel
          go_wp2_with fail
          go_ret
          refine .inl ?_
          rw [D.out]
          refine ⟨ret_str' rfl, hy0.out, hok'.out.pc.below hlt1 hbel'.out, ?_⟩
          exact ((hk.out.drewN m).trans hok'.out.kc).below hltw hz1 hbel'.out
        · rw [M2.out] at hb
          exact absurd hy0.out hb
      · have t0 : ((bt s y.a : Int) != 34) = true := by simp; omega
        have D : Hid (bt s y.a ≠ 34) := hd
        clear hd
        go_wp2_with fail
        refine (peek_any b s y.a _ hs hy1 h1.out).mono ?_
        rintro e w2 ⟨rfl, m, rfl⟩
        go_wp2_with fail
        refine (readLetter_any b s y _ hs hy0.out hy1 (h1.out.drewN m)).mono ?_
        rintro e w3 (⟨rfl, hok⟩ | ⟨hb, q, hq⟩)
        · obtain ⟨r1, r2, r3⟩ := rletter_ok hy0.out hok.e
          have hok' : Hid (POk s b (wr.drewN m) w3 (rletter s y).1) := hok
          have hz3 := hok.kc.kb.size
          rw [World.heap_drewN] at hz3
          have hB3 : Hid (Lib.IsBuilder 86 5 w1.heap.size w1.heap.size (Lib.byteCells t.data.toList) w3) := builder_kc (b := b) hB.out (((Kc.refl b wr).drewN m).trans hok.kc) hlt1
          have Hn : Hid (rtextLoop s (s.size + 3 - x.a) ⟨x.a + 1, x.e, x.p⟩ ⟨#[]⟩ = rtextLoop s n (rletter s y).1 (put t (rletter s y).2)) := by
            unfold Hid
            rw [hr.out, textLoop_letter _ _ _ _ hy0.out D.out hok.e]
          clear hok
          have hcl : (Lib.byteCells t.data.toList).length = t.size := byteCells_len t
          have HP : Hid _ := byteCells_put t (rletter s y).2 r3
          have hps := pput_size t (rletter s y).2
          have HPs : Hid _ := hps
          clear hps
          go_wp2_with fail
          refine (Tryz.Builder_WriteByte w1.heap.size w1.heap.size (Lib.byteCells t.data.toList) ((rletter s y).2 : Int) _ hB3.out (by omega) (by omega)).mono ?_
          rintro e w4 ⟨rfl, hB4, hbel⟩
          have hB4' : Hid _ := hB4
          have hbel' : Hid (Below w1.heap.size w3 w4) := hbel
          have hz4 := hbel.size
          clear hB4 hbel
          obtain ⟨n', hn'⟩ : ∃ n', n = n' + 1 := ⟨n - 1, by omega⟩
          go_wp2_with fail
          go_roundw
          case rel =>
            refine ⟨n', (rletter s y).1, put t (rletter s y).2, ?_, hok'.out.e, hok'.out.pc.below hlt1 hbel'.out, ((hk.out.drewN m).trans hok'.out.kc).below hltw hz1 hbel'.out, r2, by omega, by rw [HPs.out]; omega, ?_, by omega⟩
            · unfold Hid; rw [Hn.out, hn']
            · unfold Hid
              rw [HP.out]
              exact .inr hB4'.out
          case measure =>
            rw [(hok'.out.pc.below hlt1 hbel'.out).atOf, h1.out.atOf]
            omega
        · have he' := hq.e
          subst he'
          refine ⟨rfl, .inr ?_⟩
          have e1 : (rtext s x).1 = (rletter s y).1 := by
            rw [R0.out, hr.out]
            exact textLoop_bad _ _ _ _ hy0.out D.out hb
          rw [e1]
          exact ⟨hb, q, hq.trans (hk.out.kb.drewN m)⟩
  · rw [M.out] at hb
    exact absurd HE.out hb
end Go.Proofs.YtdebjhdafnpfkabGreatDoor

namespace Go.Proofs.YtdebjhdafnpfkabGreatDoor
set_option linter.unusedVariables false
set_option linter.unusedSimpArgs false
theorem index_one (c : UInt8) : ∀ l : List UInt8, (Lib.index l [c] = -1 ∧ c ∉ l) ∨ ∃ i : Nat, Lib.index l [c] = i ∧ c ∉ l.take i ∧ l = l.take i ++ c :: l.drop (i + 1)
  | [] => .inl ⟨rfl, by simp⟩
  | b :: l => by
    by_cases hb : b = c
    · subst hb
      refine .inr ⟨0, ?_, by simp, by simp⟩
      simp [Lib.index, List.isPrefixOf]
    · have hp : [c].isPrefixOf (b :: l) = false := by simp [List.isPrefixOf]; exact fun e => hb e.symm
      rcases index_one c l with ⟨h1, h2⟩ | ⟨i, h1, h2, h3⟩
      · refine .inl ⟨by simp [Lib.index, hp, h1], ?_⟩
        simp only [List.mem_cons, not_or]
        exact ⟨fun e => hb e.symm, h2⟩
      · refine .inr ⟨i + 1, ?_, ?_, ?_⟩
        · simp only [Lib.index, hp, h1]
          simp
        · simp only [List.take_succ_cons, List.mem_cons, not_or]
          exact ⟨fun e => hb e.symm, h2⟩
        · simp only [List.take_succ_cons, List.drop_succ_cons, List.cons_append]
          rw [← h3]
theorem replaceK_one (c : UInt8) : ∀ (k : Nat) (l : List UInt8), l.count c ≤ k → Lib.replaceK [c] [] k l = l.filter (fun b => decide (b ≠ c))
  | 0, l, h => by
    have hn : c ∉ l := by rw [← List.count_eq_zero]; omega
    show l = _
    rw [List.filter_eq_self.2]
    intro b hb
    simp only [decide_eq_true_eq]
    exact fun e => hn (e ▸ hb)
  | k + 1, l, h => by
    rcases index_one c l with ⟨h1, h2⟩ | ⟨i, h1, h2, h3⟩
    · simp only [Lib.replaceK, h1]
      rw [List.filter_eq_self.2]
      · simp
      · intro b hb
        simp only [decide_eq_true_eq]
        exact fun e => h2 (e ▸ hb)
    · rw [Lib.replaceK_hit _ _ _ _ _ h1]
      have e1 : (l.take i).filter (fun b => decide (b ≠ c)) = l.take i := by
        rw [List.filter_eq_self.2]
        intro b hb
        simp only [decide_eq_true_eq]
        exact fun e => h2 (e ▸ hb)
      have hc : (l.drop (i + 1)).count c ≤ k := by
        rw [h3, List.count_append, List.count_cons_self] at h
        omega
      have ih := replaceK_one c k (l.drop (i + 1)) hc
      rw [show i + [c].length = i + 1 from rfl, ih]
      conv => rhs; rw [h3, List.filter_append, e1, List.filter_cons_of_neg (by simp)]
      simp
theorem replaceAll_one (l : List UInt8) : Lib.replaceAll l [95] [] = l.filter (fun b => decide (b ≠ 95)) := by
  unfold Lib.replaceAll Lib.replace
  rw [if_neg (by simp)]
  unfold Lib.replaceNum
  rw [if_pos (.inl (by decide)), Lib.count_one]
  exact replaceK_one 95 _ l (Nat.le_refl _)
def digB (b : UInt8) : Bool := decide (48 ≤ b.toNat ∧ b.toNat ≤ 57)
def okP (p : List UInt8) : Bool := decide (p ≠ []) && p.all digB
def numB : Bool → List UInt8 → Bool
  | fst, [] => !fst
  | fst, b :: r => if fst then digB b && numB false r else if b = 95 then numB true r else digB b && numB false r
theorem dig95 : digB 95 = false := by decide
theorem numB_piece (r : List UInt8) : ∀ p : List UInt8, 95 ∉ p → numB false (p ++ 95 :: r) = (p.all digB && numB true r)
  | [], _ => by simp [numB]
  | b :: p, h => by
    simp only [List.mem_cons, not_or] at h
    have ih := numB_piece r p h.2
    simp only [List.cons_append, numB, Bool.false_eq_true, if_false, List.all_cons]
    rw [if_neg (fun e => h.1 e.symm), ih, Bool.and_assoc]
theorem numB_last : ∀ p : List UInt8, 95 ∉ p → numB false p = p.all digB
  | [], _ => rfl
  | b :: p, h => by
    simp only [List.mem_cons, not_or] at h
    simp only [numB, Bool.false_eq_true, if_false, List.all_cons]
    rw [if_neg (fun e => h.1 e.symm), numB_last p h.2]
theorem numA_piece (r p : List UInt8) (h : 95 ∉ p) : numB true (p ++ 95 :: r) = (okP p && numB true r) := by
  cases p with
  | nil => simp [numB, okP, dig95]
  | cons b p =>
    simp only [List.mem_cons, not_or] at h
    simp only [List.cons_append, numB, if_true, okP, List.all_cons, ne_eq, reduceCtorEq, not_false_eq_true, decide_true, Bool.true_and]
    rw [numB_piece r p h.2, Bool.and_assoc]
theorem numA_last (p : List UInt8) (h : 95 ∉ p) : numB true p = okP p := by
  cases p with
  | nil => rfl
  | cons b p =>
    simp only [List.mem_cons, not_or] at h
    simp only [numB, if_true, okP, List.all_cons, ne_eq, reduceCtorEq, not_false_eq_true, decide_true, Bool.true_and]
    rw [numB_last p h.2]
theorem splitK_one : ∀ (k : Nat) (l : List UInt8), l.count 95 ≤ k → (Lib.splitK [95] 0 k l).all okP = numB true l
  | 0, l, h => by
    have hn : (95 : UInt8) ∉ l := by rw [← List.count_eq_zero]; omega
    simp only [Lib.splitK, List.all_cons, List.all_nil, Bool.and_true]
    exact (numA_last l hn).symm
  | k + 1, l, h => by
    rcases index_one 95 l with ⟨h1, h2⟩ | ⟨i, h1, h2, h3⟩
    · simp only [Lib.splitK, h1]
      simp only [beq_self_eq_true, if_true, List.all_cons, List.all_nil, Bool.and_true]
      exact (numA_last l h2).symm
    · simp only [Lib.splitK, h1]
      rw [if_neg (by simp)]
      have hc : (l.drop (i + 1)).count 95 ≤ k := by
        rw [h3, List.count_append, List.count_cons_self] at h
        omega
      have ih := splitK_one k (l.drop (i + 1)) hc
      simp only [List.all_cons, Int.toNat_natCast, Nat.add_zero]
      rw [show i + [(95 : UInt8)].length = i + 1 from rfl, ih]
      conv => rhs; rw [h3]
      exact (numA_piece _ _ h2).symm
/-- What may stand at a place of a number. -/
def okAt (fst : Bool) (l : List UInt8) (i : Nat) : Prop :=
  ∀ b, l[i]? = some b → digB b = true ∨ (b = 95 ∧ (fst = true → i ≠ 0) ∧ i + 1 ≠ l.length ∧ l[i + 1]? ≠ some 95)
theorem numB_iff : ∀ (l : List UInt8) (fst : Bool), numB fst l = true ↔ ((fst = true → l ≠ []) ∧ ∀ i, okAt fst l i)
  | [], fst => by cases fst <;> simp [numB, okAt]
  | b :: r, true => by
    have ih := numB_iff r false
    simp only [numB, if_true, Bool.and_eq_true, ih, Bool.false_eq_true, false_implies, true_and, forall_const, ne_eq, reduceCtorEq, not_false_eq_true]
    constructor
    · rintro ⟨h1, h2⟩ i c hc
      cases i with
      | zero =>
        simp only [List.getElem?_cons_zero, Option.some.injEq] at hc
        subst hc
        exact .inl h1
      | succ i =>
        simp only [List.getElem?_cons_succ] at hc
        rcases h2 i c hc with h | ⟨h, _, h3, h4⟩
        · exact .inl h
        · exact .inr ⟨h, fun _ => by omega, by simp only [List.length_cons]; omega, by simpa using h4⟩
    · intro h
      refine ⟨?_, fun i c hc => ?_⟩
      · rcases h 0 b rfl with h | ⟨_, h, _⟩
        · exact h
        · exact absurd rfl (h rfl)
      · rcases h (i + 1) c (by simpa using hc) with h | ⟨h1, _, h3, h4⟩
        · exact .inl h
        · exact .inr ⟨h1, fun e => by simp at e, by simp only [List.length_cons] at h3; omega, by simpa using h4⟩
  | b :: r, false => by
    have ihA := numB_iff r true
    have ihB := numB_iff r false
    simp only [numB, Bool.false_eq_true, if_false, false_implies, true_and]
    by_cases hb : b = 95
    · rw [if_pos hb, ihA]
      constructor
      · rintro ⟨h1, h2⟩ i c hc
        cases i with
        | zero =>
          simp only [List.getElem?_cons_zero, Option.some.injEq] at hc
          subst hc
          refine .inr ⟨hb, fun e => by simp at e, ?_, ?_⟩
          · intro e
            simp only [List.length_cons] at e
            exact h1 rfl (List.length_eq_zero_iff.1 (by omega))
          · simp only [List.getElem?_cons_succ]
            intro e
            rcases h2 0 95 e with h | ⟨_, h, _⟩
            · rw [dig95] at h; cases h
            · exact h rfl rfl
        | succ i =>
          simp only [List.getElem?_cons_succ] at hc
          rcases h2 i c hc with h | ⟨h, _, h3, h4⟩
          · exact .inl h
          · exact .inr ⟨h, fun e => by simp at e, by simp only [List.length_cons]; omega, by simpa using h4⟩
      · intro h
        have h0 : r ≠ [] ∧ r[0]? ≠ some 95 := by
          rcases h 0 b rfl with h | ⟨_, _, h3, h4⟩
          · rw [hb, dig95] at h; cases h
          · refine ⟨?_, by simpa using h4⟩
            intro e
            rw [e] at h3
            simp at h3
        refine ⟨fun _ => h0.1, fun i c hc => ?_⟩
        rcases h (i + 1) c (by simpa using hc) with h | ⟨h1, _, h3, h4⟩
        · exact .inl h
        · refine .inr ⟨h1, fun _ e => ?_, by simp only [List.length_cons] at h3; omega, by simpa using h4⟩
          subst e
          rw [h1] at hc
          exact h0.2 hc
    · rw [if_neg hb, Bool.and_eq_true, ihB]
      simp only [Bool.false_eq_true, false_implies, true_and]
      constructor
      · rintro ⟨h1, h2⟩ i c hc
        cases i with
        | zero =>
          simp only [List.getElem?_cons_zero, Option.some.injEq] at hc
          subst hc
          exact .inl h1
        | succ i =>
          simp only [List.getElem?_cons_succ] at hc
          rcases h2 i c hc with h | ⟨h, _, h3, h4⟩
          · exact .inl h
          · exact .inr ⟨h, fun e => by simp at e, by simp only [List.length_cons]; omega, by simpa using h4⟩
      · intro h
        refine ⟨?_, fun i c hc => ?_⟩
        · rcases h 0 b rfl with h | ⟨h, _⟩
          · exact h
          · exact absurd h hb
        · rcases h (i + 1) c (by simpa using hc) with h | ⟨h1, _, h3, h4⟩
          · exact .inl h
          · exact .inr ⟨h1, fun e => by simp at e, by simp only [List.length_cons] at h3; omega, by simpa using h4⟩
theorem bt_list (t : ByteArray) (i : Nat) (h : i < t.size) : ∃ b, t.data.toList[i]? = some b ∧ b.toNat = bt t i := by
  refine ⟨t[i], ?_, bt_in t i h⟩
  rw [Array.getElem?_toList]
  exact Array.getElem?_eq_getElem h
theorem okDigits_iff (t : ByteArray) : ∀ n, okDigits t n = true ↔ ∀ i, i < n → okDigit t i = true
  | 0 => by simp [okDigits]
  | n + 1 => by
    simp only [okDigits, Bool.and_eq_true, okDigits_iff t n]
    constructor
    · rintro ⟨h1, h2⟩ i hi
      by_cases e : i = n
      · subst e; exact h2
      · exact h1 i (by omega)
    · intro h
      exact ⟨fun i hi => h i (by omega), h n (by omega)⟩
theorem u8_95 (b : UInt8) : b = 95 ↔ b.toNat = 95 := by
  constructor
  · rintro rfl; rfl
  · intro h; exact UInt8.toNat_inj.1 h
/-- As the document has it. -/
theorem rnumber_numB (t : ByteArray) (h0 : bt t 0 ≠ 48) : rnumber t = numB true t.data.toList := by
  have hl : t.data.toList.length = t.size := Array.length_toList
  rw [Bool.eq_iff_iff, numB_iff]
  simp only [rnumber, Bool.and_eq_true, decide_eq_true_eq, okDigits_iff, true_implies]
  constructor
  · rintro ⟨⟨h1, _⟩, h2⟩
    refine ⟨?_, fun i b hb => ?_⟩
    · intro e
      rw [e] at hl
      simp at hl
      omega
    · have hi : i < t.size := by
        rw [← hl]
        exact (List.getElem?_eq_some_iff.1 hb).1
      obtain ⟨c, hc, hc2⟩ := bt_list t i hi
      rw [hb] at hc
      cases hc
      have := h2 i hi
      simp only [okDigit, decide_eq_true_eq] at this
      rcases this with h | ⟨h, h3, h4, h5⟩
      · exact .inl (by simp only [digB, decide_eq_true_eq]; omega)
      · refine .inr ⟨(u8_95 b).2 (by omega), fun _ => h3, by rw [hl]; exact h4, fun e => ?_⟩
        have hi2 : i + 1 < t.size := by
          rw [← hl]
          exact (List.getElem?_eq_some_iff.1 e).1
        obtain ⟨c, hc, hc2⟩ := bt_list t (i + 1) hi2
        rw [e] at hc
        cases hc
        exact h5 (by rw [← hc2]; rfl)
  · rintro ⟨h1, h2⟩
    refine ⟨⟨?_, ?_⟩, fun i hi => ?_⟩
    · intro e
      rw [e] at hl
      exact h1 (List.length_eq_zero_iff.1 hl)
    · rintro ⟨_, h⟩
      exact h0 h
    · obtain ⟨b, hb, hb2⟩ := bt_list t i hi
      simp only [okDigit, decide_eq_true_eq]
      rcases h2 i b hb with h | ⟨h, h3, h4, h5⟩
      · simp only [digB, decide_eq_true_eq] at h
        exact .inl (by omega)
      · refine .inr ⟨by rw [← hb2]; exact (u8_95 b).1 h, h3 rfl, by rw [← hl]; exact h4, fun e => ?_⟩
        have hi2 : i + 1 < t.size := by rw [hl] at h4; omega
        obtain ⟨c, hc, hc2⟩ := bt_list t (i + 1) hi2
        exact h5 (by rw [hc, (u8_95 c).2 (by omega)])
theorem rnumber_zero (t : ByteArray) (h0 : bt t 0 = 48) (hs : t.size ≠ 0) : rnumber t = decide (t.size = 1) := by
  rw [Bool.eq_iff_iff]
  simp only [rnumber, Bool.and_eq_true, decide_eq_true_eq, okDigits_iff]
  constructor
  · rintro ⟨⟨_, h⟩, _⟩
    have : ¬ 1 < t.size := fun h1 => h ⟨h1, h0⟩
    omega
  · intro h
    refine ⟨⟨hs, fun h1 => by omega⟩, fun i hi => ?_⟩
    have e : i = 0 := by omega
    subst e
    simp only [okDigit, decide_eq_true_eq]
    exact .inl (by omega)
theorem drop_nil (p : UInt8 → Bool) : ∀ l : List UInt8, l.dropWhile p = [] ↔ ∀ b ∈ l, p b = true
  | [] => by simp
  | b :: l => by
    have ih := drop_nil p l
    cases hb : p b
    · rw [List.dropWhile_cons_of_neg (by simp [hb])]
      constructor
      · intro h; cases h
      · intro h
        have := h b (by simp)
        rw [hb] at this
        cases this
    · rw [List.dropWhile_cons_of_pos hb, ih]
      constructor
      · intro h c hc
        rcases List.mem_cons.1 hc with rfl | hc
        · exact hb
        · exact h c hc
      · intro h c hc
        exact h c (List.mem_cons_of_mem _ hc)
theorem drop_head (p : UInt8 → Bool) (x : UInt8) (r : List UInt8) : ∀ l : List UInt8, l.dropWhile p = x :: r → p x = false
  | [], h => by simp at h
  | b :: l, h => by
    cases hb : p b
    · rw [List.dropWhile_cons_of_neg (by simp [hb])] at h
      cases h
      exact hb
    · rw [List.dropWhile_cons_of_pos hb] at h
      exact drop_head p x r l h
/-- With a digit at its head a piece is no more than digits, if all of it is trimmed away. -/
theorem trim_digits (l : List UInt8) : (Lib.trimS l [48, 49, 50, 51, 52, 53, 54, 55, 56, 57] = []) ↔ l.all digB = true := by
  have hc : ∀ b : UInt8, [(48 : UInt8), 49, 50, 51, 52, 53, 54, 55, 56, 57].contains b = digB b := by
    intro b
    rw [Bool.eq_iff_iff]
    simp only [List.contains_iff_mem, List.mem_cons, List.not_mem_nil, or_false, digB, decide_eq_true_eq, ← UInt8.toNat_inj]
    simp only [show (48 : UInt8).toNat = 48 from rfl, show (49 : UInt8).toNat = 49 from rfl, show (50 : UInt8).toNat = 50 from rfl, show (51 : UInt8).toNat = 51 from rfl, show (52 : UInt8).toNat = 52 from rfl,
      show (53 : UInt8).toNat = 53 from rfl, show (54 : UInt8).toNat = 54 from rfl, show (55 : UInt8).toNat = 55 from rfl, show (56 : UInt8).toNat = 56 from rfl, show (57 : UInt8).toNat = 57 from rfl]
    omega
  unfold Lib.trimS Lib.trimLeftS Lib.trimRightS
  simp only [hc]
  rw [drop_nil, List.all_eq_true]
  constructor
  · intro h
    cases hd : l.reverse.dropWhile (fun b => digB b) with
    | nil =>
      rw [drop_nil] at hd
      intro b hb
      exact hd b (by simpa using hb)
    | cons x r =>
      have hx := h x (by rw [hd]; simp)
      have hn := drop_head _ _ _ _ hd
      rw [hx] at hn
      cases hn
  · intro h b hb
    refine h b ?_
    have : b ∈ l.reverse.dropWhile (fun b => digB b) := by simpa using hb
    have := (List.dropWhile_sublist (fun b => digB b)).subset this
    simpa using this
def stepd (n : Int) (b : UInt8) : Int := if n ≤ 999999999999999 then 10 * n + b.toNat - 48 else n
def rdigL (l : List UInt8) : Int := l.foldl stepd 0
theorem rdigL_snoc (l : List UInt8) (b : UInt8) : rdigL (l ++ [b]) = stepd (rdigL l) b := by simp [rdigL]
theorem stick (n : Int) (h : 999999999999999 < n) : ∀ l : List UInt8, l.foldl stepd n = n
  | [] => rfl
  | b :: l => by
    rw [List.foldl_cons]
    have : stepd n b = n := by unfold stepd; rw [if_neg (by omega)]
    rw [this]
    exact stick n h l
theorem rdigL_stick (l r : List UInt8) (h : 999999999999999 < rdigL l) : rdigL (l ++ r) = rdigL l := by
  unfold rdigL at *
  rw [List.foldl_append]
  exact stick _ h r
theorem rdig_list (t : ByteArray) : ∀ i, i ≤ t.size → rdig t i = rdigL ((t.data.toList.take i).filter (fun b => decide (b ≠ 95)))
  | 0, _ => by simp [rdig, rdigL]
  | i + 1, h => by
    have ih := rdig_list t i (by omega)
    obtain ⟨b, hb, hb2⟩ := bt_list t i (by omega)
    have e : t.data.toList.take (i + 1) = t.data.toList.take i ++ [b] := by
      rw [List.take_add_one, hb]
      rfl
    rw [e, List.filter_append]
    simp only [rdig]
    by_cases h95 : b = 95
    · have h96 : bt t i = 95 := by rw [← hb2, h95]; rfl
      rw [if_neg (by omega), ih]
      simp [h95]
    · have h96 : bt t i ≠ 95 := by
        intro e
        exact h95 ((u8_95 b).2 (by omega))
      rw [List.filter_cons_of_pos (by simpa using h95), List.filter_nil, rdigL_snoc, ← ih]
      unfold stepd
      by_cases hm : rdig t i ≤ 999999999999999
      · rw [if_pos ⟨h96, hm⟩, if_pos hm, hb2]
      · rw [if_neg (by omega), if_neg hm]
theorem rdig_all (t : ByteArray) : rdig t t.size = rdigL (t.data.toList.filter (fun b => decide (b ≠ 95))) := by
  rw [rdig_list t t.size (Nat.le_refl _), List.take_of_length_le (show t.data.toList.length ≤ t.size from Nat.le_of_eq Array.length_toList)]
/-- All that is left of a number without its signs of part is digits. -/
theorem numB_digits : ∀ (l : List UInt8) (fst : Bool), numB fst l = true → (l.filter (fun b => decide (b ≠ 95))).all digB = true
  | [], _, _ => rfl
  | b :: r, fst, h => by
    simp only [numB] at h
    by_cases hb : b = 95
    · subst hb
      rw [List.filter_cons_of_neg (by simp)]
      cases fst
      · simp only [Bool.false_eq_true, if_false, if_true] at h
        exact numB_digits r true h
      · simp only [if_true, dig95, Bool.false_and, Bool.false_eq_true] at h
    · rw [List.filter_cons_of_pos (by simpa using hb), List.all_cons]
      have h2 : digB b = true ∧ numB false r = true := by
        cases fst
        · simp only [Bool.false_eq_true, if_false, if_neg hb, Bool.and_eq_true] at h
          exact h
        · simpa using h
      rw [h2.1, numB_digits r false h2.2]
      rfl
end Go.Proofs.YtdebjhdafnpfkabGreatDoor
