import Derived.Test.YtdebjhdafnpfkaaGreatDoorWorld5
namespace Go.Proofs.YtdebjhdafnpfkaaGreatDoor
open Go.ChangeShapes Go.WideShapes Go.ChangeAt Go.RowKit
set_option linter.unusedVariables false

/-- An item is stored whole. -/
abbrev put5 (w : World) (q k : Nat) (pv fv : Value) (vo : Option Addr) (r : ByteArray) : World :=
  ((((w.setCell ⟨q, 0, none⟩ (.int .u8 k)).setCell ⟨q, 1, none⟩ pv).setCell ⟨q, 2, none⟩ fv).setCell ⟨q, 3, none⟩ (.pointer vo)).setCell ⟨q, 4, none⟩ (.string r)
theorem put5_size (w : World) (q k : Nat) (pv fv : Value) (vo : Option Addr) (r : ByteArray) : (put5 w q k pv fv vo r).heap.size = w.heap.size := by simp [put5, World.setCell]
theorem put5_block (w : World) (q k : Nat) (pv fv : Value) (vo : Option Addr) (r : ByteArray) (j : Nat) (hj : j ≠ q) : (put5 w q k pv fv vo r).heap[j]? = w.heap[j]? := by
  unfold put5
  rw [Below.heap_setCell _ _ _ _ hj, Below.heap_setCell _ _ _ _ hj, Below.heap_setCell _ _ _ _ hj, Below.heap_setCell _ _ _ _ hj, Below.heap_setCell _ _ _ _ hj]
theorem RD.put5 {w : World} {b : Nat} {s : ByteArray} {x : St} {it : Value} (h : RD w b s x it) (q k : Nat) (pv fv : Value) (vo : Option Addr) (r : ByteArray) (hq : q ≠ b) : RD (put5 w q k pv fv vo r) b s x it :=
  h.of_block (put5_block _ _ _ _ _ _ _ _ (fun e => hq e.symm)) (Nat.le_of_eq (put5_size _ _ _ _ _ _ _).symm)
theorem Kb.put5 {b : Nat} {u v : World} (h : Kb b u v) (hb : b < u.heap.size) (q k : Nat) (pv fv : Value) (vo : Option Addr) (r : ByteArray) (hq : u.heap.size ≤ q) : Kb b u (put5 v q k pv fv vo r) :=
  ((((h.set_new hb q 0 _ hq).set_new hb q 1 _ hq).set_new hb q 2 _ hq).set_new hb q 3 _ hq).set_new hb q 4 _ hq
theorem XN.put5 {w : World} {q k : Nat} {pv fv : Value} {vo : Option Addr} {r : ByteArray} (h : XN w q k pv fv vo r) (k' : Nat) (pv' fv' : Value) (vo' : Option Addr) (r' : ByteArray) : XN (put5 w q k' pv' fv' vo' r') q k' pv' fv' vo' r' :=
  ((((h.setK k').setP pv').setF fv').setV vo').setR r'
theorem RowIn.put5 {w : World} {lo hi : Nat} {e : TypeId} {v : Value} {xs : List Value} (h : RowIn w lo hi e v xs) (q k : Nat) (pv fv : Value) (vo : Option Addr) (r : ByteArray) (hq : q < lo) : RowIn (put5 w q k pv fv vo r) lo hi e v xs :=
  h.frame (fun j j1 _ => put5_block _ _ _ _ _ _ _ _ (by omega))
theorem RVal.put5 {d : Nat} {w : World} {lo hi p : Nat} {v : V} (h : RVal d lo hi w p v) (q k : Nat) (pv fv : Value) (vo : Option Addr) (r : ByteArray) (hq : q < lo) : RVal d lo hi (put5 w q k pv fv vo r) p v :=
  h.frame (fun j j1 _ => put5_block _ _ _ _ _ _ _ _ (by omega))
end Go.Proofs.YtdebjhdafnpfkaaGreatDoor
