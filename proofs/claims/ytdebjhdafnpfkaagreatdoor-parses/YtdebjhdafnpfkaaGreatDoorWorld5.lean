import Derived.Test.YtdebjhdafnpfkaaGreatDoorWorld4
namespace Go.Proofs.YtdebjhdafnpfkaaGreatDoor
open Go.ChangeShapes Go.WideShapes Go.ChangeAt Go.RowKit
set_option linter.unusedVariables false

/-- An item that is being put together. -/
structure XN (w : World) (q k : Nat) (pv fv : Value) (vo : Option Addr) (r : ByteArray) : Prop where
  c0 : w.cell? ⟨q, 0, none⟩ = some (.int .u8 k)
  c1 : w.cell? ⟨q, 1, none⟩ = some pv
  c2 : w.cell? ⟨q, 2, none⟩ = some fv
  c3 : w.cell? ⟨q, 3, none⟩ = some (.pointer vo)
  c4 : w.cell? ⟨q, 4, none⟩ = some (.string r)
  F : ∀ o, w.frozen? ⟨q, o, none⟩ = false
  lt : q < w.heap.size

theorem XN.of_block {w w' : World} {q k : Nat} {pv fv : Value} {vo : Option Addr} {r : ByteArray} (h : XN w q k pv fv vo r) (hb : w'.heap[q]? = w.heap[q]?) (hz : w.heap.size ≤ w'.heap.size) : XN w' q k pv fv vo r :=
  ⟨(World.cell?_of_block (w := w) hb).trans h.c0, (World.cell?_of_block (w := w) hb).trans h.c1, (World.cell?_of_block (w := w) hb).trans h.c2, (World.cell?_of_block (w := w) hb).trans h.c3,
   (World.cell?_of_block (w := w) hb).trans h.c4, fun o => (World.frozen?_of_block (w := w) hb).trans (h.F o), Nat.lt_of_lt_of_le h.lt hz⟩
theorem XN.kb {b : Nat} {w w' : World} {q k : Nat} {pv fv : Value} {vo : Option Addr} {r : ByteArray} (h : XN w q k pv fv vo r) (hk : Kb b w w') (hb : q ≠ b) : XN w' q k pv fv vo r := h.of_block (hk.block q h.lt hb) hk.size
theorem XN.below {B : Nat} {w w' : World} {q k : Nat} {pv fv : Value} {vo : Option Addr} {r : ByteArray} (h : XN w q k pv fv vo r) (hk : Below B w w') (hb : q < B) : XN w' q k pv fv vo r := h.of_block (hk.block q hb) hk.size
theorem XN.setK {w : World} {q k : Nat} {pv fv : Value} {vo : Option Addr} {r : ByteArray} (h : XN w q k pv fv vo r) (k' : Nat) : XN (w.setCell ⟨q, 0, none⟩ (.int .u8 k')) q k' pv fv vo r :=
  ⟨cell_set_same _ _ _ _ _ h.c0, (cell_set_off _ _ _ _ _ (by omega)).trans h.c1, (cell_set_off _ _ _ _ _ (by omega)).trans h.c2, (cell_set_off _ _ _ _ _ (by omega)).trans h.c3,
   (cell_set_off _ _ _ _ _ (by omega)).trans h.c4, fun o => (World.frozen?_setCell _ _ _ _).trans (h.F o), by simpa [World.setCell] using h.lt⟩
theorem XN.setR {w : World} {q k : Nat} {pv fv : Value} {vo : Option Addr} {r : ByteArray} (h : XN w q k pv fv vo r) (r' : ByteArray) : XN (w.setCell ⟨q, 4, none⟩ (.string r')) q k pv fv vo r' :=
  ⟨(cell_set_off _ _ _ _ _ (by omega)).trans h.c0, (cell_set_off _ _ _ _ _ (by omega)).trans h.c1, (cell_set_off _ _ _ _ _ (by omega)).trans h.c2, (cell_set_off _ _ _ _ _ (by omega)).trans h.c3,
   cell_set_same _ _ _ _ _ h.c4, fun o => (World.frozen?_setCell _ _ _ _).trans (h.F o), by simpa [World.setCell] using h.lt⟩
theorem XN.setP {w : World} {q k : Nat} {pv fv : Value} {vo : Option Addr} {r : ByteArray} (h : XN w q k pv fv vo r) (v : Value) : XN (w.setCell ⟨q, 1, none⟩ v) q k v fv vo r :=
  ⟨(cell_set_off _ _ _ _ _ (by omega)).trans h.c0, cell_set_same _ _ _ _ _ h.c1, (cell_set_off _ _ _ _ _ (by omega)).trans h.c2, (cell_set_off _ _ _ _ _ (by omega)).trans h.c3,
   (cell_set_off _ _ _ _ _ (by omega)).trans h.c4, fun o => (World.frozen?_setCell _ _ _ _).trans (h.F o), by simpa [World.setCell] using h.lt⟩
theorem XN.setF {w : World} {q k : Nat} {pv fv : Value} {vo : Option Addr} {r : ByteArray} (h : XN w q k pv fv vo r) (v : Value) : XN (w.setCell ⟨q, 2, none⟩ v) q k pv v vo r :=
  ⟨(cell_set_off _ _ _ _ _ (by omega)).trans h.c0, (cell_set_off _ _ _ _ _ (by omega)).trans h.c1, cell_set_same _ _ _ _ _ h.c2, (cell_set_off _ _ _ _ _ (by omega)).trans h.c3,
   (cell_set_off _ _ _ _ _ (by omega)).trans h.c4, fun o => (World.frozen?_setCell _ _ _ _).trans (h.F o), by simpa [World.setCell] using h.lt⟩
theorem XN.setV {w : World} {q k : Nat} {pv fv : Value} {vo : Option Addr} {r : ByteArray} (h : XN w q k pv fv vo r) (o : Option Addr) : XN (w.setCell ⟨q, 3, none⟩ (.pointer o)) q k pv fv o r :=
  ⟨(cell_set_off _ _ _ _ _ (by omega)).trans h.c0, (cell_set_off _ _ _ _ _ (by omega)).trans h.c1, (cell_set_off _ _ _ _ _ (by omega)).trans h.c2, cell_set_same _ _ _ _ _ h.c3,
   (cell_set_off _ _ _ _ _ (by omega)).trans h.c4, fun o => (World.frozen?_setCell _ _ _ _).trans (h.F o), by simpa [World.setCell] using h.lt⟩
theorem XN.set_other {w : World} {q k : Nat} {pv fv : Value} {vo : Option Addr} {r : ByteArray} (h : XN w q k pv fv vo r) (p o : Nat) (v : Value) (hp : p ≠ q) : XN (w.setCell ⟨p, o, none⟩ v) q k pv fv vo r :=
  h.of_block (Below.heap_setCell _ _ _ _ (by simpa using fun e => hp e.symm)) (by simp [World.setCell])
theorem XN.drewN {w : World} {q k : Nat} {pv fv : Value} {vo : Option Addr} {r : ByteArray} (h : XN w q k pv fv vo r) (n : Nat) : XN (w.drewN n) q k pv fv vo r := by
  induction n with
  | zero => exact h
  | succ n ih => exact ⟨ih.c0, ih.c1, ih.c2, ih.c3, ih.c4, ih.F, ih.lt⟩
theorem XN.alloc {w : World} {q k : Nat} {pv fv : Value} {vo : Option Addr} {r : ByteArray} (h : XN w q k pv fv vo r) (o : Obj) : XN (w.alloc o) q k pv fv vo r := h.of_block (Below.heap_alloc _ _ _ h.lt) (by simp)
theorem XN.new (w : World) (k : Nat) : XN (w.alloc (.cells #[.int .u8 k, .slice none 0 0, .slice none 0 0, .pointer none, .string ⟨#[]⟩] 72)) w.heap.size k (.slice none 0 0) (.slice none 0 0) none ⟨#[]⟩ :=
  ⟨by simp, by simp, by simp, by simp, by simp, fun o => by simp, by simp⟩
theorem RowIn.kb {b : Nat} {w w' : World} {lo hi : Nat} {e : TypeId} {v : Value} {xs : List Value} (h : RowIn w lo hi e v xs) (hk : Kb b w w') (hb : b < lo) (hz : hi ≤ w.heap.size) : RowIn w' lo hi e v xs :=
  h.frame (fun k k1 k2 => hk.block k (by omega) (by omega))
theorem RowIn.set {w : World} {lo hi : Nat} {e : TypeId} {v : Value} {xs : List Value} (h : RowIn w lo hi e v xs) (q o : Nat) (u : Value) (hq : q < lo) : RowIn (w.setCell ⟨q, o, none⟩ u) lo hi e v xs :=
  h.frame (fun k k1 _ => Below.heap_setCell _ _ _ _ (by simp only; omega))
theorem RVal.kb {b d : Nat} {w w' : World} {lo hi p : Nat} {v : V} (h : RVal d lo hi w p v) (hk : Kb b w w') (hb : b < lo) (hz : hi ≤ w.heap.size) : RVal d lo hi w' p v :=
  h.frame (fun k k1 k2 => hk.block k (by omega) (by omega))
theorem RVal.set {d : Nat} {w : World} {lo hi p : Nat} {v : V} (h : RVal d lo hi w p v) (q o : Nat) (u : Value) (hq : q < lo) : RVal d lo hi (w.setCell ⟨q, o, none⟩ u) p v :=
  h.frame (fun k k1 _ => Below.heap_setCell _ _ _ _ (by simp only; omega))
end Go.Proofs.YtdebjhdafnpfkaaGreatDoor
