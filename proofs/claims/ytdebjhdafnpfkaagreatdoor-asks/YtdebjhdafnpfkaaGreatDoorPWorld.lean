import Derived.Test.YtdebjhdafnpfkaaGreatDoorWorld
import Derived.Test.YtdebjhdafnpfkaaGreatDoorPure2
import Derived.WalkLawsBesides
namespace Go.Proofs.YtdebjhdafnpfkaaGreatDoor
open Go.ChangeShapes Go.WideShapes Go.ChangeAt Go.RowKit
set_option linter.unusedVariables false

/-- As Kb, and of block b the cells but 1 and 2 are as they were. -/
structure Kc (b : Nat) (w w' : World) : Prop where
  kb : Kb b w w'
  off : ∀ o, o ≠ 1 → o ≠ 2 → w'.cell? ⟨b, o, none⟩ = w.cell? ⟨b, o, none⟩

theorem Kc.refl (b : Nat) (w : World) : Kc b w w := ⟨Kb.refl _ _, fun _ _ _ => rfl⟩
theorem Kc.trans {b : Nat} {u v w : World} (h : Kc b u v) (k : Kc b v w) : Kc b u w := ⟨h.kb.trans k.kb, fun o h1 h2 => (k.off o h1 h2).trans (h.off o h1 h2)⟩
theorem Kc.drewN {b : Nat} {u v : World} (h : Kc b u v) (n : Nat) : Kc b u (v.drewN n) := by
  refine ⟨h.kb.drewN n, fun o h1 h2 => ?_⟩
  rw [← h.off o h1 h2]
  clear h
  induction n with
  | zero => rfl
  | succ n ih => exact ih
theorem Kc.drew {b : Nat} {u v : World} (h : Kc b u v) : Kc b u v.drew := h.drewN 1
theorem Kc.set {b : Nat} {u v : World} (h : Kc b u v) (o : Nat) (x : Value) (ho : o = 1 ∨ o = 2) : Kc b u (v.setCell ⟨b, o, none⟩ x) :=
  ⟨h.kb.set o x, fun o' h1 h2 => (World.cell?_setCell_other _ _ _ _ (by intro e; simp only [Addr.mk.injEq, and_true, true_and] at e; omega)).trans (h.off o' h1 h2)⟩
theorem Kc.alloc {b : Nat} {u v : World} (h : Kc b u v) (hb : b < v.heap.size) (o : Obj) : Kc b u (v.alloc o) :=
  ⟨h.kb.alloc hb o, fun o' h1 h2 => (World.cell?_of_block (w := v) (Below.heap_alloc _ _ _ hb)).trans (h.off o' h1 h2)⟩

/-- The program's place in a text: the text, the place, the line. -/
structure PC (w : World) (b : Nat) (s : ByteArray) (a : Nat) : Prop where
  T : w.cell? ⟨b, 0, none⟩ = some (.string s)
  A : w.cell? ⟨b, 1, none⟩ = some (.int .i64 a)
  L : w.cell? ⟨b, 2, none⟩ = some (.int .i64 (lineAt s a))
  F : ∀ o, w.frozen? ⟨b, o, none⟩ = false
  lt : b < w.heap.size

theorem PC.drewN {w : World} {b : Nat} {s : ByteArray} {a : Nat} (h : PC w b s a) (n : Nat) : PC (w.drewN n) b s a := by
  induction n with
  | zero => exact h
  | succ n ih => exact ⟨ih.T, ih.A, ih.L, ih.F, ih.lt⟩
theorem PC.of_block {w w' : World} {b : Nat} {s : ByteArray} {a : Nat} (h : PC w b s a) (hb : w'.heap[b]? = w.heap[b]?) (hz : w.heap.size ≤ w'.heap.size) : PC w' b s a :=
  ⟨(World.cell?_of_block (w := w) hb).trans h.T, (World.cell?_of_block (w := w) hb).trans h.A, (World.cell?_of_block (w := w) hb).trans h.L,
   fun o => (World.frozen?_of_block (w := w) hb).trans (h.F o), Nat.lt_of_lt_of_le h.lt hz⟩
theorem PC.alloc {w : World} {b : Nat} {s : ByteArray} {a : Nat} (h : PC w b s a) (o : Obj) : PC (w.alloc o) b s a :=
  h.of_block (Below.heap_alloc _ _ _ h.lt) (by simp)
theorem PC.set1 {w : World} {b : Nat} {s : ByteArray} {a : Nat} (h : PC w b s a) (hl : bt s a ≠ 10) : PC (w.setCell ⟨b, 1, none⟩ (.int .i64 ((a : Int) + 1))) b s (a + 1) :=
  ⟨(cell_set_off _ _ _ _ _ (by omega)).trans h.T, cell_set_same _ _ _ _ _ h.A, by rw [lineAt, if_neg hl]; exact (cell_set_off _ _ _ _ _ (by omega)).trans h.L,
   fun o => (World.frozen?_setCell _ _ _ _).trans (h.F o), by simpa [World.setCell] using h.lt⟩
theorem PC.set2 {w : World} {b : Nat} {s : ByteArray} {a : Nat} (h : PC w b s a) (hl : bt s a = 10) :
    PC ((w.setCell ⟨b, 2, none⟩ (.int .i64 ((lineAt s a : Int) + 1))).setCell ⟨b, 1, none⟩ (.int .i64 ((a : Int) + 1))) b s (a + 1) :=
  ⟨(cell_set_off _ _ _ _ _ (by omega)).trans ((cell_set_off _ _ _ _ _ (by omega)).trans h.T), cell_set_same _ _ _ _ _ ((cell_set_off _ _ _ _ _ (by omega)).trans h.A),
   by rw [lineAt, if_pos hl]; exact (cell_set_off _ _ _ _ _ (by omega)).trans (cell_set_same _ _ _ _ _ h.L),
   fun o => ((World.frozen?_setCell _ _ _ _).trans (World.frozen?_setCell _ _ _ _)).trans (h.F o), by simpa [World.setCell] using h.lt⟩
theorem PC.atOf {w : World} {b : Nat} {s : ByteArray} {a : Nat} (h : PC w b s a) : atOf w b = a := by
  simp [Go.Proofs.YtdebjhdafnpfkaaGreatDoor.atOf, h.A, intOf]
theorem PC.kc {w w' : World} {b : Nat} {s : ByteArray} {a a' : Nat} (h : PC w b s a) (k : Kc b w w') (h' : PC w' b s a') : PC w' b s a' := h'

theorem plineAt_le (s : ByteArray) : ∀ a, lineAt s a ≤ a + 1
  | 0 => Nat.le_refl _
  | a + 1 => by
    have := plineAt_le s a
    unfold lineAt
    split <;> omega
theorem lineAt_pos (s : ByteArray) : ∀ a, 1 ≤ lineAt s a
  | 0 => Nat.le_refl _
  | a + 1 => by
    have := lineAt_pos s a
    unfold lineAt
    split <;> omega
theorem lineAt_skip (p : Nat → Bool) (s : ByteArray) (hp : p 10 = false) : ∀ n a, lineAt s (skip p s n a) = lineAt s a
  | 0, a => rfl
  | n + 1, a => by
    unfold skip
    split
    · rename_i hc
      rw [lineAt_skip p s hp n (a + 1)]
      show (if bt s a = 10 then _ else _) = _
      rw [if_neg]
      intro e
      rw [e, hp] at hc
      exact absurd hc.2 (by simp)
    · rfl
theorem lineAt_scan (p : Nat → Bool) (s : ByteArray) (hp : p 10 = false) (a : Nat) : lineAt s (scan p s a) = lineAt s a := lineAt_skip p s hp _ a

/-- A panic with a Fault of that kind and that line. -/
structure Pan (b : Nat) (w : World) (e : Ending) (w' : World) (k l q : Nat) : Prop where
  e : e = .panicked [{ v := .iface 84 (.pointer (some ⟨q, 0, none⟩)), recovered := false }]
  ge : w.heap.size ≤ q
  lt : q < w'.heap.size
  K : w'.cell? ⟨q, 0, none⟩ = some (.int .i64 k)
  L : w'.cell? ⟨q, 1, none⟩ = some (.int .i64 l)
  kb : Kb b w w'
theorem Pan.trans {b : Nat} {w w1 w' : World} {e : Ending} {k l q : Nat} (h : Kb b w w1) (p : Pan b w1 e w' k l q) : Pan b w e w' k l q :=
  ⟨p.e, Nat.le_trans h.size p.ge, p.lt, p.K, p.L, h.trans p.kb⟩
/-- What is wrong was told. -/
def PBad (s : ByteArray) (b : Nat) (w : World) (e : Ending) (w' : World) (y : St) : Prop := y.e ≠ 0 ∧ ∃ q, Pan b w e w' y.e (lineAt s y.p) q
theorem PBad.trans {s : ByteArray} {b : Nat} {w w1 w' : World} {e : Ending} {y : St} (h : Kb b w w1) (p : PBad s b w1 e w' y) : PBad s b w e w' y :=
  ⟨p.1, p.2.elim fun q hq => ⟨q, hq.trans h⟩⟩
/-- It went well. -/
structure POk (s : ByteArray) (b : Nat) (w w' : World) (y : St) : Prop where
  e : y.e = 0
  pc : PC w' b s y.a
  kc : Kc b w w'
theorem POk.trans {s : ByteArray} {b : Nat} {w w1 w' : World} {y z : St} (h : POk s b w w1 y) (p : POk s b w1 w' z) : POk s b w w' z := ⟨p.e, p.pc, h.kc.trans p.kc⟩
end Go.Proofs.YtdebjhdafnpfkaaGreatDoor
