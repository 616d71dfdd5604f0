import Derived.Test.YtdebjhdafnpfkaaGreatDoorWorld2
import Derived.Test.YtdebjhdafnpfkaaGreatDoorPure3
namespace Go.Proofs.YtdebjhdafnpfkaaGreatDoor
open Go.ChangeShapes Go.WideShapes Go.ChangeAt Go.RowKit
set_option linter.unusedVariables false

/-- The node of a list or a group that is being read. -/
structure LN (w : World) (q k : Nat) (lv nv : Value) : Prop where
  c0 : w.cell? ⟨q, 0, none⟩ = some (.int .u8 k)
  c1 : w.cell? ⟨q, 1, none⟩ = some (.int .i64 0)
  c2 : w.cell? ⟨q, 2, none⟩ = some (.string ⟨#[]⟩)
  c3 : w.cell? ⟨q, 3, none⟩ = some lv
  c4 : w.cell? ⟨q, 4, none⟩ = some nv
  F : ∀ o, w.frozen? ⟨q, o, none⟩ = false

theorem LN.of_block {w w' : World} {q k : Nat} {lv nv : Value} (h : LN w q k lv nv) (hb : w'.heap[q]? = w.heap[q]?) : LN w' q k lv nv :=
  ⟨(World.cell?_of_block (w := w) hb).trans h.c0, (World.cell?_of_block (w := w) hb).trans h.c1, (World.cell?_of_block (w := w) hb).trans h.c2, (World.cell?_of_block (w := w) hb).trans h.c3,
   (World.cell?_of_block (w := w) hb).trans h.c4, fun o => (World.frozen?_of_block (w := w) hb).trans (h.F o)⟩
theorem LN.kb {b : Nat} {w w' : World} {q k : Nat} {lv nv : Value} (h : LN w q k lv nv) (hk : Kb b w w') (hq : q < w.heap.size) (hb : q ≠ b) : LN w' q k lv nv := h.of_block (hk.block q hq hb)
theorem LN.setL {w : World} {q k : Nat} {lv nv : Value} (h : LN w q k lv nv) (v : Value) : LN (w.setCell ⟨q, 3, none⟩ v) q k v nv :=
  ⟨(cell_set_off _ _ _ _ _ (by omega)).trans h.c0, (cell_set_off _ _ _ _ _ (by omega)).trans h.c1, (cell_set_off _ _ _ _ _ (by omega)).trans h.c2, cell_set_same _ _ _ _ _ h.c3,
   (cell_set_off _ _ _ _ _ (by omega)).trans h.c4, fun o => (World.frozen?_setCell _ _ _ _).trans (h.F o)⟩
theorem LN.setN {w : World} {q k : Nat} {lv nv : Value} (h : LN w q k lv nv) (v : Value) : LN (w.setCell ⟨q, 4, none⟩ v) q k lv v :=
  ⟨(cell_set_off _ _ _ _ _ (by omega)).trans h.c0, (cell_set_off _ _ _ _ _ (by omega)).trans h.c1, (cell_set_off _ _ _ _ _ (by omega)).trans h.c2, (cell_set_off _ _ _ _ _ (by omega)).trans h.c3,
   cell_set_same _ _ _ _ _ h.c4, fun o => (World.frozen?_setCell _ _ _ _).trans (h.F o)⟩
theorem LN.new (w : World) (k : Nat) : LN (w.alloc (.cells #[.int .u8 k, .int .i64 0, .string ⟨#[]⟩, .slice none 0 0, .slice none 0 0] 134)) w.heap.size k (.slice none 0 0) (.slice none 0 0) :=
  ⟨by simp, by simp, by simp, by simp, by simp, fun o => by simp⟩

/-- The values that lie in it, each in a stretch of its own, behind the node, off both rows. -/
def Ch (d : Nat) (w : World) (q : Nat) (lv nv : Value) (ps : List Nat) (l : List V) : Prop :=
  ps.length = l.length ∧ ∀ (i p : Nat) (u : V), ps[i]? = some p → l[i]? = some u →
    ∃ lo hi, q < lo ∧ hi ≤ w.heap.size ∧ (∀ k, lv.ownBlock = some k ∨ nv.ownBlock = some k → ¬ (lo ≤ k ∧ k < hi)) ∧ RVal d lo hi w p u

theorem Ch.nil (d : Nat) (w : World) (q : Nat) (lv nv : Value) : Ch d w q lv nv [] [] := ⟨rfl, fun i p u h => by simp at h⟩
theorem Ch.frame {d : Nat} {w w' : World} {q : Nat} {lv nv lv' nv' : Value} {ps : List Nat} {l : List V} (h : Ch d w q lv nv ps l) (hz : w.heap.size ≤ w'.heap.size)
    (hb : ∀ k, q < k → k < w.heap.size → lv.ownBlock ≠ some k → nv.ownBlock ≠ some k → w'.heap[k]? = w.heap[k]?)
    (hl : lv'.ownBlock = lv.ownBlock ∨ ∀ k, lv'.ownBlock = some k → w.heap.size ≤ k) (hn : nv'.ownBlock = nv.ownBlock ∨ ∀ k, nv'.ownBlock = some k → w.heap.size ≤ k) : Ch d w' q lv' nv' ps l := by
  refine ⟨h.1, fun i p u hp hu => ?_⟩
  obtain ⟨lo, hi, h1, h2, h3, h4⟩ := h.2 i p u hp hu
  refine ⟨lo, hi, h1, Nat.le_trans h2 hz, fun k hk => ?_, h4.frame (fun k k1 k2 => hb k (by omega) (by omega) (fun e => h3 k (.inl e) ⟨k1, k2⟩) (fun e => h3 k (.inr e) ⟨k1, k2⟩))⟩
  rcases hk with hk | hk
  · rcases hl with e | e
    · exact h3 k (.inl (e ▸ hk))
    · have := e k hk
      omega
  · rcases hn with e | e
    · exact h3 k (.inr (e ▸ hk))
    · have := e k hk
      omega
theorem Ch.kb {b d : Nat} {w w' : World} {q : Nat} {lv nv : Value} {ps : List Nat} {l : List V} (h : Ch d w q lv nv ps l) (hk : Kb b w w') (hb : b ≤ q) : Ch d w' q lv nv ps l :=
  h.frame hk.size (fun k k1 k2 _ _ => hk.block k k2 (by omega)) (.inl rfl) (.inl rfl)
theorem Ch.alloc {d : Nat} {w : World} {q : Nat} {lv nv : Value} {ps : List Nat} {l : List V} (h : Ch d w q lv nv ps l) (o : Obj) : Ch d (w.alloc o) q lv nv ps l :=
  h.frame (by simp) (fun k _ k2 _ _ => Below.heap_alloc _ _ _ k2) (.inl rfl) (.inl rfl)
theorem Ch.set {d : Nat} {w : World} {q : Nat} {lv nv : Value} {ps : List Nat} {l : List V} (h : Ch d w q lv nv ps l) (o : Nat) (v : Value) : Ch d (w.setCell ⟨q, o, none⟩ v) q lv nv ps l :=
  h.frame (by simp [World.setCell]) (fun k k1 _ _ _ => Below.heap_setCell _ _ _ _ (by simp only; omega)) (.inl rfl) (.inl rfl)
theorem Ch.growL {d : Nat} {w w' : World} {q : Nat} {lv nv v : Value} {ps : List Nat} {l : List V} (h : Ch d w q lv nv ps l) (hg : w.grownBy w' lv.ownBlock) (ha : v.ownBlock = lv.ownBlock ∨ v.ownBlock = some w.heap.size) : Ch d w' q v nv ps l :=
  h.frame hg.size (fun k _ k2 k3 _ => hg.block k k2 (fun e => k3 e.symm)) (ha.elim (fun e => .inl e) (fun e => .inr (fun k hk => by rw [e] at hk; cases hk; exact Nat.le_refl _))) (.inl rfl)
theorem Ch.growN {d : Nat} {w w' : World} {q : Nat} {lv nv v : Value} {ps : List Nat} {l : List V} (h : Ch d w q lv nv ps l) (hg : w.grownBy w' nv.ownBlock) (ha : v.ownBlock = nv.ownBlock ∨ v.ownBlock = some w.heap.size) : Ch d w' q lv v ps l :=
  h.frame hg.size (fun k _ k2 _ k4 => hg.block k k2 (fun e => k4 e.symm)) (.inl rfl) (ha.elim (fun e => .inl e) (fun e => .inr (fun k hk => by rw [e] at hk; cases hk; exact Nat.le_refl _)))
theorem Ch.snoc {d : Nat} {w : World} {q : Nat} {lv nv : Value} {ps : List Nat} {l : List V} {p : Nat} {u : V} (h : Ch d w q lv nv ps l) {lo hi : Nat} (h1 : q < lo) (h2 : hi ≤ w.heap.size)
    (h3 : ∀ k, lv.ownBlock = some k ∨ nv.ownBlock = some k → k < lo) (hr : RVal d lo hi w p u) : Ch d w q lv nv (ps ++ [p]) (l ++ [u]) := by
  refine ⟨by simp [h.1], fun i p' u' hp hu => ?_⟩
  by_cases hi' : i < ps.length
  · rw [List.getElem?_append_left hi'] at hp
    rw [List.getElem?_append_left (by rw [← h.1]; exact hi')] at hu
    exact h.2 i p' u' hp hu
  · rw [List.getElem?_append_right (by omega)] at hp
    rw [List.getElem?_append_right (by rw [← h.1]; omega)] at hu
    rw [h.1] at hp
    have e : i - l.length = 0 := by
      have := (List.getElem?_eq_some_iff.1 hp).1
      simp at this
      omega
    rw [e] at hp hu
    simp only [List.getElem?_cons_zero, Option.some.injEq] at hp hu
    subst hp hu
    exact ⟨lo, hi, h1, h2, fun k hk hc => by have := h3 k hk; omega, hr⟩
/-- The node, its rows and its values: the value. -/
theorem Ch.val {d lo hi : Nat} {w : World} {q k : Nat} {lv nv : Value} {ps : List Nat} {l : List V} {m : List ByteArray} (hc : Ch d w q lv nv ps l) (hn : LN w q k lv nv) (h1 : lo ≤ q) (h2 : q < hi) (h3 : hi = w.heap.size)
    (rl : w.ownsRow (q + 1) 70 1 lv ps.length (ps.map ptr)) (rn : w.ownsRow (q + 1) 9 1 nv m.length (m.map .string)) : RVal (d + 1) lo hi w q ⟨k, 0, ⟨#[]⟩, l, m⟩ := by
  subst h3
  refine ⟨h1, h2, hn.c0, hn.c1, hn.c2, lv, nv, hn.c3, hn.c4, (owns_rowIn rn).wide (by omega) (Nat.le_refl _), ps, (owns_rowIn rl).wide (by omega) (Nat.le_refl _), hc.1, fun i p u hp hu => ?_⟩
  obtain ⟨lo', hi', a1, a2, _, a4⟩ := hc.2 i p u hp hu
  exact a4.wide (by omega) a2
theorem owns_apart {w : World} {b1 b2 : Nat} {e1 e2 : TypeId} {v1 v2 : Value} {n1 n2 : Nat} {x1 x2 : List Value} (h1 : w.ownsRow b1 e1 1 v1 n1 x1) (h2 : w.ownsRow b2 e2 1 v2 n2 x2) (he : e1 ≠ e2) (k : Nat)
    (hk : v1.ownBlock = some k) : v2.ownBlock ≠ some k := by
  intro hk2
  rcases h1.2 with ⟨rfl, _⟩ | ⟨g1, c1, cur1, rfl, _, hg1, _⟩
  · simp [Value.ownBlock] at hk
  · rcases h2.2 with ⟨rfl, _⟩ | ⟨g2, c2, cur2, rfl, _, hg2, _⟩
    · simp [Value.ownBlock] at hk2
    · simp only [Value.ownBlock, Option.some.injEq] at hk hk2
      subst hk
      subst hk2
      rw [hg1] at hg2
      simp only [Option.some.injEq, Obj.cells.injEq] at hg2
      exact he hg2.2.1
theorem owns_set_other {w : World} {base : Nat} {e : TypeId} {v : Value} {n : Nat} {xs : List Value} (h : w.ownsRow base e 1 v n xs) (q o : Nat) (u : Value) (hq : q < base) : (w.setCell ⟨q, o, none⟩ u).ownsRow base e 1 v n xs :=
  owns_frame h (fun k k1 _ => Below.heap_setCell _ _ _ _ (by simp only; omega))
theorem owns_grown {w w' : World} {base : Nat} {e : TypeId} {v : Value} {n : Nat} {xs : List Value} {row : Option Nat} (h : w.ownsRow base e 1 v n xs) (hg : w.grownBy w' row) (hr : ∀ k, v.ownBlock = some k → row ≠ some k) : w'.ownsRow base e 1 v n xs := by
  refine h.kept hg ?_
  cases hv : v.ownBlock with
  | none => exact .inl rfl
  | some k => exact .inr (fun e => hr k hv e.symm)
end Go.Proofs.YtdebjhdafnpfkaaGreatDoor
