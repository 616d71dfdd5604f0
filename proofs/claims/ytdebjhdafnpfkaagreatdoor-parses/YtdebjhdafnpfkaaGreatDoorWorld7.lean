import Derived.Test.YtdebjhdafnpfkaaGreatDoorWorld6
namespace Go.Proofs.YtdebjhdafnpfkaaGreatDoor
open Go.ChangeShapes Go.WideShapes Go.ChangeAt Go.RowKit
set_option linter.unusedVariables false

theorem info_item : (Tryz.prog.info? 72).map (fun i => (i.zero, i.size, i.bytes)) = some (some (.agg #[.int .u8 0, .slice none 0 0, .slice none 0 0, .pointer none, .string ⟨#[]⟩]), 5, 80) := by kernel_rfl

theorem Its.alloc {w : World} {b : Nat} {it : Value} {cs : List (List Value)} {items : List It} (h : Its w b it cs items) (o : Obj) : Its (w.alloc o) b it cs items :=
  h.frame (by simp) (fun k _ k2 => Below.heap_alloc _ _ _ k2)
theorem Its.lt {w : World} {b : Nat} {it : Value} {cs : List (List Value)} {items : List It} (h : Its w b it cs items) (k : Nat) (hk : it.ownBlock = some k) : b < k ∧ k < w.heap.size := by
  have := h.2.1.lt k hk
  omega
/-- One more: its cells behind the others'. -/
theorem Its.snoc {w w' : World} {b : Nat} {it v : Value} {cs : List (List Value)} {items : List It} {c : List Value} {t : It} {lo hi : Nat} (h : Its w b it cs items) (hg : w.grownBy w' it.ownBlock)
    (ho : w'.ownsRow (b + 1) 72 5 v (items.length + 1) (cs.flatten ++ c)) (ha : v.ownBlock = it.ownBlock ∨ v.ownBlock = some w.heap.size)
    (h1 : b < lo) (h2 : hi ≤ w.heap.size) (h3 : ∀ k, it.ownBlock = some k → k < lo) (hr : RIt lo hi w c t) : Its w' b v (cs ++ [c]) (items ++ [t]) := by
  refine ⟨by simp [h.1], by simpa using ho, fun i c' t' hc ht => ?_⟩
  have key : ∀ lo' hi', b < lo' → hi' ≤ w.heap.size → (∀ k, it.ownBlock = some k → ¬ (lo' ≤ k ∧ k < hi')) → RIt lo' hi' w c' t' → ∃ lo hi, b < lo ∧ hi ≤ w'.heap.size ∧ (∀ k, v.ownBlock = some k → ¬ (lo ≤ k ∧ k < hi)) ∧ RIt lo hi w' c' t' := by
    intro lo' hi' a1 a2 a3 a4
    refine ⟨lo', hi', a1, Nat.le_trans a2 hg.size, fun k hk => ?_, a4.frame (fun k k1 k2 => hg.block k (by omega) (fun e => a3 k e.symm ⟨k1, k2⟩))⟩
    rcases ha with e | e
    · exact a3 k (e ▸ hk)
    · rw [e] at hk
      cases hk
      omega
  by_cases hi' : i < cs.length
  · rw [List.getElem?_append_left hi'] at hc
    rw [List.getElem?_append_left (by rw [← h.1]; exact hi')] at ht
    obtain ⟨lo', hi2, a1, a2, a3, a4⟩ := h.2.2 i c' t' hc ht
    exact key lo' hi2 a1 a2 a3 a4
  · rw [List.getElem?_append_right (by omega)] at hc
    rw [List.getElem?_append_right (by rw [← h.1]; omega)] at ht
    have e : i - cs.length = 0 := by
      have := (List.getElem?_eq_some_iff.1 hc).1
      simp at this
      omega
    rw [e] at hc
    rw [← h.1, e] at ht
    simp only [List.getElem?_cons_zero, Option.some.injEq] at hc ht
    subst hc ht
    exact key lo hi h1 h2 (fun k hk hc => by have := h3 k hk; omega) hr
theorem Its.setB {w : World} {b : Nat} {it : Value} {cs : List (List Value)} {items : List It} (h : Its w b it cs items) (o : Nat) (v : Value) : Its (w.setCell ⟨b, o, none⟩ v) b it cs items :=
  h.frame (by simp [World.setCell]) (fun k k1 _ => Below.heap_setCell _ _ _ _ (by simp only; omega))
theorem RD.setI {w : World} {b : Nat} {s : ByteArray} {x : St} {it : Value} (h : RD w b s x it) (v : Value) : RD (w.setCell ⟨b, 4, none⟩ v) b s x v :=
  ⟨(cell_set_off _ _ _ _ _ (by omega)).trans h.S, (cell_set_off _ _ _ _ _ (by omega)).trans h.A, (cell_set_off _ _ _ _ _ (by omega)).trans h.E, (cell_set_off _ _ _ _ _ (by omega)).trans h.P,
   cell_set_same _ _ _ _ _ h.I, fun o => (World.frozen?_setCell _ _ _ _).trans (h.F o), by simpa [World.setCell] using h.lt⟩
def eOf (w : World) (b : Nat) : Nat := (intOf ((w.cell? ⟨b, 2, none⟩).getD undef)).toNat
theorem RD.eOf {w : World} {b : Nat} {s : ByteArray} {x : St} {it : Value} (h : RD w b s x it) : eOf w b = x.e := by
  simp [Go.Proofs.YtdebjhdafnpfkaaGreatDoor.eOf, h.E, intOf]
/-- What is left to read: for the measure. -/
def leftOf (w : World) (b n : Nat) : Nat := if eOf w b = 0 then n + 1 - atOf w b else 0
theorem RD.leftOf {w : World} {b : Nat} {s : ByteArray} {x : St} {it : Value} (h : RD w b s x it) (n : Nat) : leftOf w b n = if x.e = 0 then n + 1 - x.a else 0 := by
  unfold Go.Proofs.YtdebjhdafnpfkaaGreatDoor.leftOf
  rw [h.eOf, h.atOf]
end Go.Proofs.YtdebjhdafnpfkaaGreatDoor
