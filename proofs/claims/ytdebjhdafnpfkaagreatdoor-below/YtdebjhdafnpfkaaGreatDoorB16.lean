import Derived.Test.YtdebjhdafnpfkaaGreatDoorB15
import Derived.Deep.RegionWith
namespace Go.Proofs.YtdebjhdafnpfkaaGreatDoor
open Go.ChangeShapes Go.WideShapes Go.ChangeAt Go.RowKit
set_option linter.unusedVariables false
set_option linter.unusedSimpArgs false
theorem takeRemark_any (q : Nat) (r : ByteArray) (u0 u1 : Value) (w : World) (h0 : w.cell? ⟨q, 0, none⟩ = some u0) (h1 : w.cell? ⟨q, 1, none⟩ = some u1) (hF : ∀ o, w.frozen? ⟨q, o, none⟩ = false) :
    Calls Tryz.prog 208 #[.pointer (some ⟨q, 0, none⟩), .string r] w fun e w' => e = .returned (.tuple #[]) ∧ w' = (w.setCell ⟨q, 0, none⟩ (.string r)).setCell ⟨q, 1, none⟩ (.bool true) := by
  have h1' : (w.setCell ⟨q, 0, none⟩ (.string r)).cell? ⟨q, 1, none⟩ = some u1 := (cell_set_off _ _ _ _ _ (by omega)).trans h1
  have hF' : ∀ o, (w.setCell ⟨q, 0, none⟩ (.string r)).frozen? ⟨q, o, none⟩ = false := fun o => (World.frozen?_setCell _ _ _ _).trans (hF o)
  go_enter Tryz.func208, Tryz.ntmps208
  go_wp2
  go_returns
  exact ⟨rfl, rfl⟩
/-- What is wrong was told, at the face of the reader. -/
def QBad (s : ByteArray) (b : Nat) (w : World) (e : Ending) (w' : World) (y : St) : Prop := y.e ≠ 0 ∧ ∃ q, e = .panicked [{ v := .iface 84 (.pointer (some ⟨q, 0, none⟩)), recovered := false }] ∧ b < q ∧ q < w'.heap.size ∧
  w'.cell? ⟨q, 0, none⟩ = some (.int .i64 y.e) ∧ w'.cell? ⟨q, 1, none⟩ = some (.int .i64 (lineAt s y.p)) ∧ Below b w w'
theorem QBad.of {s : ByteArray} {b : Nat} {w w1 w' : World} {e : Ending} {y z : St} (h : PBad s b w1 e w' y) (hb : b < w1.heap.size) (k : Below b w w1) (he : z.e = y.e) (hp : z.p = y.p) : QBad s b w e w' z := by
  obtain ⟨h1, q, hq⟩ := h
  refine ⟨by rw [he]; exact h1, q, hq.e, Nat.lt_of_lt_of_le hb hq.ge, hq.lt, by rw [he]; exact hq.K, by rw [hp]; exact hq.L, k.trans (hq.kb.bel hb)⟩
/-- Behind a line. -/
def lineZ (s : ByteArray) (items : List It) (x : St) : St := if (rline s items x).1.e = 0 ∧ (rline s items x).1.a < s.size then rmust s (rline s items x).1 10 else (rline s items x).1
theorem meth_hdr (q : Nat) (w : World) : (Go.method 402 177 (.pointer (some ⟨q, 0, none⟩)) "TakeRemark").run Tryz.prog w = .ok (208, .pointer (some ⟨q, 0, none⟩)) w := by kernel_rfl
theorem meth_pair (q : Nat) (w : World) : (Go.method 402 94 (.pointer (some ⟨q, 0, none⟩)) "TakeRemark").run Tryz.prog w = .ok (208, .pointer (some ⟨q, 0, none⟩)) w := by kernel_rfl
theorem meth_bare (q : Nat) (w : World) : (Go.method 402 173 (.pointer (some ⟨q, 0, none⟩)) "TakeRemark").run Tryz.prog w = .ok (208, .pointer (some ⟨q, 0, none⟩)) w := by kernel_rfl
theorem ahead_hdr (q : Nat) (w : World) : (nilAhead 402 177 (.pointer (some ⟨q, 0, none⟩)) "TakeRemark").run Tryz.prog w = .ok (some false) w := by kernel_rfl
theorem ahead_pair (q : Nat) (w : World) : (nilAhead 402 94 (.pointer (some ⟨q, 0, none⟩)) "TakeRemark").run Tryz.prog w = .ok (some false) w := by kernel_rfl
theorem ahead_bare (q : Nat) (w : World) : (nilAhead 402 173 (.pointer (some ⟨q, 0, none⟩)) "TakeRemark").run Tryz.prog w = .ok (some false) w := by kernel_rfl
/-- As a line goes on behind its entry. -/
def Mid (s : ByteArray) (items : List It) (x : St) (y : St) (t : It) : Prop :=
  (rline s items x = rnote s (y, t) ∧ (bt s y.a = 35 → ∀ r : ByteArray, r.size ≠ 0 → ItOk ⟨t.k, t.path, t.full, t.v, r⟩) ∧ (bt s y.a ≠ 35 → ItOk t)) ∨
  (y.a < s.size ∧ bt s y.a ≠ 35 ∧ bt s y.a ≠ 10 ∧ (lineZ s items x).e = 3 ∧ (lineZ s items x).p = y.a)
theorem mid_item {s : ByteArray} {b : Nat} {w w' : World} {items : List It} {x : St} {v : Value} (he : x.e = 0) (hx : bt s (rblanks s x false).a = 91 ∨ letterB (bt s (rblanks s x false).a) = true)
    (h : EntOk s b w w' (ritem s items (rblanks s x false)).1 items (ritem s items (rblanks s x false)).2 v) :
    Mid s items x (rblanks s (ritem s items (rblanks s x false)).1 false) (ritem s items (rblanks s x false)).2 := by
  have hk : (ritem s items (rblanks s x false)).2.k = 91 ∨ (ritem s items (rblanks s x false)).2.k = 61 := by
    unfold ritem
    split
    · exact .inl rfl
    · exact .inr rfl
  have hlt : (rblanks s x false).a < s.size := by
    rcases Nat.lt_or_ge (rblanks s x false).a s.size with q | q
    · exact q
    · rw [bt_end s _ q] at hx
      rcases hx with e | e
      · omega
      · exact absurd e (by decide)
  have h10 : bt s (rblanks s x false).a ≠ 10 := by
    intro e
    rw [e] at hx
    exact absurd hx (by decide)
  have h35 : bt s (rblanks s x false).a ≠ 35 := by
    intro e
    rw [e] at hx
    exact absurd hx (by decide)
  refine .inl ⟨?_, fun _ r hr => ⟨h.h, h.p, ?_⟩, fun _ => ⟨h.h, h.p, ?_⟩⟩
  · rw [rline_eq, if_neg (by rintro (q | q); omega; exact h10 q)]
    unfold rbody
    rw [ris_pk s (rblanks s x false) 35 he (by decide), if_neg (by simpa using h35)]
  · rcases hk with q | q
    · exact .inl q
    · exact .inr (.inl q)
  · rcases hk with q | q
    · exact .inl q
    · exact .inr (.inl q)
theorem rname_none {s : ByteArray} {x : St} (he : x.e = 0) (ha : x.a ≤ s.size) (h : letterB (bt s x.a) = false) : (rname s x).1 = ⟨x.a, 3, x.a⟩ := by
  have e : scan letterB s x.a = x.a := scan_stop _ _ _ (fun _ => h)
  rw [rname_eq s x he ha, if_pos e]
theorem rpath_none {s : ByteArray} {x : St} (he : x.e = 0) (ha : x.a ≤ s.size) (h : letterB (bt s x.a) = false) : (rpath s x).1 = ⟨x.a, 3, x.a⟩ := by
  obtain ⟨n, hn⟩ : ∃ n, s.size + 1 - x.a = n + 1 := ⟨s.size - x.a, by omega⟩
  have e := rname_none he ha h
  have e0 : rpathLoop s (s.size + 1 - x.a) x [] = pathRest s n (rname s x).1 [(rname s x).2] := by rw [hn, rpathLoop_succ]; rfl
  rw [rpath_bad e0 (by rw [e]; simp), e]
theorem mid_bare {s : ByteArray} {items : List It} {x : St} (he : x.e = 0) (ha : x.a ≤ s.size) (hx : ¬ (bt s (rblanks s x false).a = 91 ∨ letterB (bt s (rblanks s x false).a) = true)) :
    ∃ k, (k = 32 ∨ k = 35) ∧ Mid s items x (rblanks s (rblanks s x false) false) (bareIt k) := by
  rw [rblanks_idem]
  have h1 : (rblanks s x false).a ≤ s.size := scan_le _ _ _ ha
  have he1 : (rblanks s x false).e = 0 := he
  have hz : (rline s items x).1.e = 3 → (rline s items x).1.p = (rblanks s x false).a → (lineZ s items x).e = 3 ∧ (lineZ s items x).p = (rblanks s x false).a := by
    intro q1 q2
    unfold lineZ
    rw [if_neg (by rintro ⟨q, _⟩; rw [q1] at q; cases q)]
    exact ⟨q1, q2⟩
  by_cases hb : s.size ≤ (rblanks s x false).a ∨ bt s (rblanks s x false).a = 10
  · have hn : bt s (rblanks s x false).a ≠ 35 := by
      rcases hb with q | q
      · rw [bt_end s _ q]; decide
      · rw [q]; decide
    refine ⟨32, .inl rfl, .inl ⟨?_, fun q => absurd q hn, fun _ => ⟨fun q => absurd (show (32 : Nat) = 91 from q) (by decide), fun q => absurd (show (32 : Nat) = 61 from q) (by decide), .inr (.inr (.inl ⟨rfl, rfl⟩))⟩⟩⟩
    rw [rline_eq, if_pos hb]
    unfold rnote
    simp only
    rw [ris_pk s (rblanks s x false) 35 he (by decide), if_neg (by simpa using hn)]
    rfl
  · by_cases h35 : bt s (rblanks s x false).a = 35
    · refine ⟨35, .inr rfl, .inl ⟨?_, fun _ r hr => ⟨fun q => absurd (show (35 : Nat) = 91 from q) (by decide), fun q => absurd (show (35 : Nat) = 61 from q) (by decide), .inr (.inr (.inr ⟨rfl, hr⟩))⟩, fun q => absurd h35 q⟩⟩
      rw [rline_eq, if_neg hb]
      unfold rbody
      rw [ris_pk s (rblanks s x false) 35 he (by decide), if_pos (by simpa using h35)]
      rfl
    · have hl : letterB (bt s (rblanks s x false).a) = false := by
        cases q : letterB (bt s (rblanks s x false).a)
        · rfl
        · exact absurd (.inr q) hx
      have h91 : bt s (rblanks s x false).a ≠ 91 := fun q => hx (.inl q)
      have hp := rpath_none (s := s) (x := rblanks s x false) he1 h1 hl
      have hb3 : (rpath s (rblanks s x false)).1.e ≠ 0 := by rw [hp]; simp
      have hsk := stk_val s 7 0 (rblanks s (rblanks s (rpath s (rblanks s x false)).1 false) false) hb3
      have e1 : rmust s (rblanks s (rpath s (rblanks s x false)).1 false) 61 = rblanks s (rpath s (rblanks s x false)).1 false := rmust_off _ _ _ hb3
      have hb6 : (rval s 7 0 (rblanks s (rblanks s (rpath s (rblanks s x false)).1 false) false)).1.e ≠ 0 := by rw [hsk.1]; exact hb3
      have F : (ritem s items (rblanks s x false)).1 = (rval s 7 0 (rblanks s (rblanks s (rpath s (rblanks s x false)).1 false) false)).1 := by
        rw [ritem_pair s items _ he1 h91, e1, if_neg (fun q => hb6 q.1)]
      have FE : (ritem s items (rblanks s x false)).1.e = 3 ∧ (ritem s items (rblanks s x false)).1.p = (rblanks s x false).a := by
        rw [F]
        refine ⟨hsk.1.trans ?_, hsk.2.trans ?_⟩
        · show (rpath s (rblanks s x false)).1.e = 3
          rw [hp]
        · show (rpath s (rblanks s x false)).1.p = _
          rw [hp]
      have L : rline s items x = (rblanks s (ritem s items (rblanks s x false)).1 false, (ritem s items (rblanks s x false)).2) := by
        rw [rline_eq, if_neg hb]
        unfold rbody
        rw [ris_pk s (rblanks s x false) 35 he (by decide), if_neg (by simpa using h35)]
        unfold rnote
        rw [ris_off s _ 35 (by show (ritem s items (rblanks s x false)).1.e ≠ 0; rw [FE.1]; simp), if_neg (by simp)]
      have hq := hz (by rw [L]; exact FE.1) (by rw [L]; exact FE.2)
      exact ⟨32, .inl rfl, .inr ⟨by omega, h35, fun q => hb (.inr q), hq.1, hq.2⟩⟩
theorem line_bad {s : ByteArray} {items : List It} {x : St} (he : x.e = 0) (hx : bt s (rblanks s x false).a = 91 ∨ letterB (bt s (rblanks s x false).a) = true) (h : (ritem s items (rblanks s x false)).1.e ≠ 0) :
    (lineZ s items x).e = (ritem s items (rblanks s x false)).1.e ∧ (lineZ s items x).p = (ritem s items (rblanks s x false)).1.p := by
  have hlt : (rblanks s x false).a < s.size := by
    rcases Nat.lt_or_ge (rblanks s x false).a s.size with q | q
    · exact q
    · rw [bt_end s _ q] at hx
      rcases hx with e | e
      · omega
      · exact absurd e (by decide)
  have h10 : bt s (rblanks s x false).a ≠ 10 := by
    intro e
    rw [e] at hx
    exact absurd hx (by decide)
  have h35 : bt s (rblanks s x false).a ≠ 35 := by
    intro e
    rw [e] at hx
    exact absurd hx (by decide)
  have L : rline s items x = (rblanks s (ritem s items (rblanks s x false)).1 false, (ritem s items (rblanks s x false)).2) := by
    rw [rline_eq, if_neg (by rintro (q | q); omega; exact h10 q)]
    unfold rbody
    rw [ris_pk s (rblanks s x false) 35 he (by decide), if_neg (by simpa using h35)]
    unfold rnote
    rw [ris_off s _ 35 (by exact h), if_neg (by simp)]
  unfold lineZ
  rw [if_neg (by rintro ⟨q, _⟩; rw [L] at q; exact h q), L]
  exact ⟨rfl, rfl⟩
end Go.Proofs.YtdebjhdafnpfkaaGreatDoor
