import Derived.Test.YtdebjhdafnpfkaaGreatDoorRows
import Derived.Test.YtdebjhdafnpfkaaGreatDoorPure
import Derived.WalkKit
import Derived.ProofKit
import Derived.OpenShut
import Derived.Handy
import Derived.Deep.QuietTactic
import Derived.BigQuiet
namespace Go.Proofs.YtdebjhdafnpfkaaGreatDoor
open Go.ChangeShapes Go.WideShapes Go.ChangeAt Go.RowKit
set_option linter.unusedVariables false

/-- All that was there is as it was, but for block b, which is still of its kind. -/
structure Kb (b : Nat) (w w' : World) : Prop where
  os : w'.os = w.os
  tape : w'.tape = w.tape
  output : w'.output = w.output
  size : w.heap.size ≤ w'.heap.size
  block : ∀ k, k < w.heap.size → k ≠ b → w'.heap[k]? = w.heap[k]?
  froz : ∀ o, w'.frozen? ⟨b, o, none⟩ = w.frozen? ⟨b, o, none⟩

theorem Kb.refl (b : Nat) (w : World) : Kb b w w := ⟨rfl, rfl, rfl, Nat.le_refl _, fun _ _ _ => rfl, fun _ => rfl⟩
theorem Kb.trans {b : Nat} {u v w : World} (h : Kb b u v) (k : Kb b v w) : Kb b u w :=
  ⟨k.os.trans h.os, k.tape.trans h.tape, k.output.trans h.output, Nat.le_trans h.size k.size,
   fun i hi hb => (k.block i (Nat.lt_of_lt_of_le hi h.size) hb).trans (h.block i hi hb), fun o => (k.froz o).trans (h.froz o)⟩
theorem Kb.drewN {b : Nat} {u v : World} (h : Kb b u v) (n : Nat) : Kb b u (v.drewN n) := by
  induction n with
  | zero => exact h
  | succ n ih => exact ⟨ih.os, ih.tape, ih.output, ih.size, ih.block, ih.froz⟩
theorem Kb.set {b : Nat} {u v : World} (h : Kb b u v) (o : Nat) (x : Value) : Kb b u (v.setCell ⟨b, o, none⟩ x) :=
  h.trans ⟨rfl, rfl, rfl, by simp [World.setCell], fun k _ hb => Below.heap_setCell _ _ _ _ (by simpa using hb), fun o' => World.frozen?_setCell _ _ _ _⟩
theorem Kb.alloc {b : Nat} {u v : World} (h : Kb b u v) (hb : b < v.heap.size) (o : Obj) : Kb b u (v.alloc o) :=
  h.trans ⟨rfl, rfl, rfl, by simp, fun k hk _ => Below.heap_alloc _ _ _ hk, fun o' => World.frozen?_of_block (w := v) (Below.heap_alloc _ _ _ hb)⟩
theorem Kb.cell {b : Nat} {w w' : World} (h : Kb b w w') {k o : Nat} (hk : k < w.heap.size) (hb : k ≠ b) : w'.cell? ⟨k, o, none⟩ = w.cell? ⟨k, o, none⟩ :=
  World.cell?_of_block (w := w) (h.block k hk hb)

/-- The document's reader, as it lies in memory. -/
structure RD (w : World) (b : Nat) (s : ByteArray) (x : St) (it : Value) : Prop where
  S : w.cell? ⟨b, 0, none⟩ = some (.string s)
  A : w.cell? ⟨b, 1, none⟩ = some (.int .i64 x.a)
  E : w.cell? ⟨b, 2, none⟩ = some (.int .i64 x.e)
  P : w.cell? ⟨b, 3, none⟩ = some (.int .i64 x.p)
  I : w.cell? ⟨b, 4, none⟩ = some it
  F : ∀ o, w.frozen? ⟨b, o, none⟩ = false
  lt : b < w.heap.size

theorem cell_set_same (w : World) (b o : Nat) (v u : Value) (h : w.cell? ⟨b, o, none⟩ = some u) : (w.setCell ⟨b, o, none⟩ v).cell? ⟨b, o, none⟩ = some v :=
  World.cell?_setCell_same _ _ _ h
theorem cell_set_off (w : World) (b o o' : Nat) (v : Value) (h : o ≠ o') : (w.setCell ⟨b, o, none⟩ v).cell? ⟨b, o', none⟩ = w.cell? ⟨b, o', none⟩ :=
  World.cell?_setCell_other _ _ _ _ (by intro e; simp only [Addr.mk.injEq, and_true, true_and] at e; omega)

theorem RD.setA {w : World} {b : Nat} {s : ByteArray} {x : St} {it : Value} (h : RD w b s x it) (a : Nat) : RD (w.setCell ⟨b, 1, none⟩ (.int .i64 a)) b s ⟨a, x.e, x.p⟩ it :=
  ⟨(cell_set_off _ _ _ _ _ (by omega)).trans h.S, cell_set_same _ _ _ _ _ h.A, (cell_set_off _ _ _ _ _ (by omega)).trans h.E, (cell_set_off _ _ _ _ _ (by omega)).trans h.P,
   (cell_set_off _ _ _ _ _ (by omega)).trans h.I, fun o => (World.frozen?_setCell _ _ _ _).trans (h.F o), by simpa [World.setCell] using h.lt⟩
theorem RD.setEP {w : World} {b : Nat} {s : ByteArray} {x : St} {it : Value} (h : RD w b s x it) (k q : Nat) :
    RD ((w.setCell ⟨b, 2, none⟩ (.int .i64 k)).setCell ⟨b, 3, none⟩ (.int .i64 q)) b s ⟨x.a, k, q⟩ it :=
  ⟨(cell_set_off _ _ _ _ _ (by omega)).trans ((cell_set_off _ _ _ _ _ (by omega)).trans h.S), (cell_set_off _ _ _ _ _ (by omega)).trans ((cell_set_off _ _ _ _ _ (by omega)).trans h.A),
   (cell_set_off _ _ _ _ _ (by omega)).trans (cell_set_same _ _ _ _ _ h.E), cell_set_same _ _ _ _ _ ((cell_set_off _ _ _ _ _ (by omega)).trans h.P),
   (cell_set_off _ _ _ _ _ (by omega)).trans ((cell_set_off _ _ _ _ _ (by omega)).trans h.I), fun o => ((World.frozen?_setCell _ _ _ _).trans (World.frozen?_setCell _ _ _ _)).trans (h.F o), by simpa [World.setCell] using h.lt⟩
theorem RD.drewN {w : World} {b : Nat} {s : ByteArray} {x : St} {it : Value} (h : RD w b s x it) (n : Nat) : RD (w.drewN n) b s x it := by
  induction n with
  | zero => exact h
  | succ n ih => exact ⟨ih.S, ih.A, ih.E, ih.P, ih.I, ih.F, ih.lt⟩
theorem RD.step {w : World} {b : Nat} {s : ByteArray} {x : St} {it : Value} (h : RD w b s x it) (n : Nat) : RD ((w.drewN n).setCell ⟨b, 1, none⟩ (.int .i64 ((x.a : Int) + 1))) b s ⟨x.a + 1, x.e, x.p⟩ it :=
  (h.drewN n).setA (x.a + 1)
theorem RD.step0 {w : World} {b : Nat} {s : ByteArray} {x : St} {it : Value} (h : RD w b s x it) : RD (w.setCell ⟨b, 1, none⟩ (.int .i64 ((x.a : Int) + 1))) b s ⟨x.a + 1, x.e, x.p⟩ it :=
  h.setA (x.a + 1)
/-- Where the reader is, off memory: for a loop's measure. -/
def atOf (w : World) (b : Nat) : Nat := (intOf ((w.cell? ⟨b, 1, none⟩).getD undef)).toNat
theorem RD.atOf {w : World} {b : Nat} {s : ByteArray} {x : St} {it : Value} (h : RD w b s x it) : atOf w b = x.a := by
  simp [Go.Proofs.YtdebjhdafnpfkaaGreatDoor.atOf, h.A, intOf]
end Go.Proofs.YtdebjhdafnpfkaaGreatDoor
