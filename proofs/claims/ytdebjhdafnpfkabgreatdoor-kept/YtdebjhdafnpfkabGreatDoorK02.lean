import Derived.Test.YtdebjhdafnpfkabGreatDoorK01
import Derived.Test.YtdebjhdafnpfkabGreatDoorRows
import Derived.WalkKit
import Derived.ProofKit
import Derived.OpenShut
import Derived.Handy
import Derived.Deep.QuietTactic
import Derived.BigQuiet
import Derived.WalkLawsBesides
namespace Go.Proofs.YtdebjhdafnpfkabGreatDoor
set_option linter.unusedVariables false
set_option linter.unusedSimpArgs false
theorem listLoop_end (s : ByteArray) (f : St → St × V) (n : Nat) (y : St) (l : List V) (he : y.e = 0) (h : bt s (rblanks s y true).a = 93) : rlistLoop s f (n + 1) y l = (rblanks s y true, l) := by
  simp only [rlistLoop]
  rw [if_neg (by simp [he]), ris_pk s (rblanks s y true) 93 (by exact he) (by decide), if_pos (by simpa using h)]
theorem listLoop_bad (s : ByteArray) (f : St → St × V) (n : Nat) (y : St) (l : List V) (he : y.e = 0) (h : bt s (rblanks s y true).a ≠ 93) (hb : (f (rblanks s y true)).1.e ≠ 0) :
    rlistLoop s f (n + 1) y l = (rblanks s (f (rblanks s y true)).1 true, l ++ [(f (rblanks s y true)).2]) := by
  simp only [rlistLoop]
  rw [if_neg (by simp [he]), ris_pk s (rblanks s y true) 93 (by exact he) (by decide), if_neg (by simpa using h), ris_off s (rblanks s (f (rblanks s y true)).1 true) 44 (by exact hb), if_neg (by simp)]
theorem listLoop_more (s : ByteArray) (f : St → St × V) (n : Nat) (y : St) (l : List V) (he : y.e = 0) (h : bt s (rblanks s y true).a ≠ 93) (hb : (f (rblanks s y true)).1.e = 0) (hc : bt s (rblanks s (f (rblanks s y true)).1 true).a = 44) :
    rlistLoop s f (n + 1) y l = rlistLoop s f n ⟨(rblanks s (f (rblanks s y true)).1 true).a + 1, (f (rblanks s y true)).1.e, (f (rblanks s y true)).1.p⟩ (l ++ [(f (rblanks s y true)).2]) := by
  simp only [rlistLoop]
  rw [if_neg (by simp [he]), ris_pk s (rblanks s y true) 93 (by exact he) (by decide), if_neg (by simpa using h), ris_pk s (rblanks s (f (rblanks s y true)).1 true) 44 (by exact hb) (by decide), if_pos (by simpa using hc)]
  rfl
theorem listLoop_last (s : ByteArray) (f : St → St × V) (n : Nat) (y : St) (l : List V) (he : y.e = 0) (h : bt s (rblanks s y true).a ≠ 93) (hb : (f (rblanks s y true)).1.e = 0) (hc : bt s (rblanks s (f (rblanks s y true)).1 true).a ≠ 44) :
    rlistLoop s f (n + 1) y l = (rblanks s (f (rblanks s y true)).1 true, l ++ [(f (rblanks s y true)).2]) := by
  simp only [rlistLoop]
  rw [if_neg (by simp [he]), ris_pk s (rblanks s y true) 93 (by exact he) (by decide), if_neg (by simpa using h), ris_pk s (rblanks s (f (rblanks s y true)).1 true) 44 (by exact hb) (by decide), if_neg (by simpa using hc)]
theorem rlist_eq (s : ByteArray) (f : St → St × V) (x : St) : rlist s f x = (rmust s (rlistLoop s f (s.size + 3 - x.a) ⟨x.a + 1, x.e, x.p⟩ []).1 93, ⟨108, 0, ⟨#[]⟩, (rlistLoop s f (s.size + 3 - x.a) ⟨x.a + 1, x.e, x.p⟩ []).2, []⟩) := rfl
end Go.Proofs.YtdebjhdafnpfkabGreatDoor

namespace Go.Proofs.YtdebjhdafnpfkabGreatDoor
set_option linter.unusedVariables false
/-- A remark as the program keeps it: without its sign. -/
def rmk (r : ByteArray) : ByteArray := r.extract 1 r.size
def bareB (t : It) : Bool := decide (t.k = 32 ∨ t.k = 35)
def emptyB (t : It) : Bool := bareB t && !decide (t.rem.size ≠ 0)
def partedB (a t : It) : Bool := decide (t.k = 91) && !bareB a
def blankIt : It := ⟨32, [], [], V0, ⟨#[]⟩⟩
/-- What the layout keeps: the lines, and the empty ones among them. -/
def spStep (x : List It × Bool) (t : It) : List It × Bool :=
  if emptyB t = true then (x.1, true)
  else match x.1.getLast? with
    | none => ([t], false)
    | some a => if x.2 = true ∨ partedB a t = true then (x.1 ++ [blankIt] ++ [t], false) else (x.1 ++ [t], false)
def spacedAt (items : List It) (k : Nat) : List It × Bool := (items.take k).foldl spStep ([], false)
def spacedOf (items : List It) : List It := (items.foldl spStep ([], false)).1
def blockOf (l : List It) : List It := l.takeWhile (fun t => decide (t.k = 61))
def spS (n : Nat) : ByteArray := ⟨(List.replicate n (32 : UInt8)).toArray⟩
def cutR (r : ByteArray) : ByteArray := ⟨((r.data.toList.reverse.dropWhile (([32, 9] : List UInt8).contains ·)).reverse).toArray⟩
/-- A remark as it is laid out. -/
def trimS (r : ByteArray) : ByteArray := if (cutR r).size = 0 ∨ bt (cutR r) 0 = 32 ∨ bt (cutR r) 0 = 35 then ⟨#[35]⟩ ++ cutR r else ⟨#[35, 32]⟩ ++ cutR r
/-- What stands behind something in its line. -/
def behS (something : ByteArray) (t : It) : ByteArray := if t.rem.size = 0 then ⟨#[]⟩ else if something.size = 0 then trimS (rmk t.rem) else ⟨#[32, 32]⟩ ++ trimS (rmk t.rem)
def otherS (t : It) : ByteArray := if t.k = 91 then (⟨#[91]⟩ : ByteArray) ++ jn t.path ++ (⟨#[93]⟩ : ByteArray) ++ behS ((⟨#[91]⟩ : ByteArray) ++ jn t.path ++ (⟨#[93]⟩ : ByteArray)) t else behS ⟨#[]⟩ t
def roomOf (l : List It) : Nat := l.foldl (fun r t => max r (jn t.path).size) 0
def eqS : ByteArray := ⟨#[32, 61, 32]⟩
def startS (room : Nat) (t : It) : ByteArray := jn t.path ++ spS (room - (jn t.path).size) ++ eqS
def joinS (outs : List ByteArray) : ByteArray := ⟨(([44, 32] : List UInt8).intercalate (outs.map (·.data.toList))).toArray⟩
def listS (outs : List ByteArray) : ByteArray := (⟨#[91]⟩ : ByteArray) ++ joinS outs ++ (⟨#[93]⟩ : ByteArray)
/-- A value's lines, laid out: ahead of it, behind it. -/
def vLines (fl : V → ByteArray) (wd : Nat) (ahead : ByteArray) (v : V) (beh : ByteArray) : List ByteArray :=
  if v.k ≠ 108 ∨ v.l = [] ∨ (ahead ++ fl v ++ beh).size ≤ wd then [ahead ++ fl v ++ beh]
  else [ahead ++ ⟨#[91]⟩] ++ v.l.map (fun u => ⟨#[32, 32]⟩ ++ fl u ++ ⟨#[44]⟩) ++ [(⟨#[]⟩ : ByteArray) ++ ⟨#[93]⟩ ++ beh]
def pLines (fl : V → ByteArray) (wd room : Nat) (t : It) : List ByteArray := vLines fl wd (startS room t) t.v (behS (startS room t) t)
def bLines (fl : V → ByteArray) (wd : Nat) (l : List It) : List ByteArray := (l.map (pLines fl wd (roomOf l))).flatten
/-- All lines. -/
def layL (fl : V → ByteArray) (wd : Nat) : Nat → List It → List ByteArray
  | 0, _ => []
  | n + 1, l =>
    if blockOf l = [] then match l with
      | [] => []
      | t :: r => otherS t :: layL fl wd n r
    else bLines fl wd (blockOf l) ++ layL fl wd n (l.drop (blockOf l).length)
def layOf (fl : V → ByteArray) (wd : Nat) (items : List It) : List ByteArray := layL fl wd ((spacedOf items).length + 1) (spacedOf items)
/-- A text of its lines. -/
def textOf (ls : List ByteArray) : ByteArray := ls.foldl (fun s l => s ++ l ++ ⟨#[10]⟩) ⟨#[]⟩
/-- The flat text of a value that is no group, given that of a number. -/
def escS (c : UInt8) : List UInt8 := if c = 34 ∨ c = 92 then [92, c] else if c = 10 then [92, 110] else if c = 9 then [92, 116] else [c]
def quotS (s : ByteArray) : ByteArray := ⟨([34] ++ s.data.toList.flatMap escS ++ [34]).toArray⟩
def flat1 (fn : Int → ByteArray) (v : V) : ByteArray := if v.k = 110 then fn v.n else if v.k = 98 then (if v.n = 1 then trueS else falseS) else quotS v.s
def flatV (fn : Int → ByteArray) (v : V) : ByteArray := if v.k = 108 then listS (v.l.map (flat1 fn)) else flat1 fn v
end Go.Proofs.YtdebjhdafnpfkabGreatDoor

namespace Go.Proofs.YtdebjhdafnpfkabGreatDoor
open Go.ChangeShapes Go.WideShapes Go.ChangeAt Go.RowKit
set_option linter.unusedVariables false
/-- All that was there is as it was, but for block b, which is still of its kind. -/
structure Kb (b : Nat) (w w' : World) : Prop where
  os : w'.os = w.os
  tape : w'.tape = w.tape
  output : w'.output = w.output
  size : w.heap.size ≤ w'.heap.size
  block : ∀ k, k < w.heap.size → k ≠ b → w'.heap[k]? = w.heap[k]?
  froz : ∀ o, w'.frozen? ⟨b, o, none⟩ = w.frozen? ⟨b, o, none⟩
theorem Kb.refl (b : Nat) (w : World) : Kb b w w := ⟨rfl, rfl, rfl, Nat.le_refl _, fun _ _ _ => rfl, fun _ => rfl⟩
theorem Kb.trans {b : Nat} {u v w : World} (h : Kb b u v) (k : Kb b v w) : Kb b u w :=
  ⟨k.os.trans h.os, k.tape.trans h.tape, k.output.trans h.output, Nat.le_trans h.size k.size,
   fun i hi hb => (k.block i (Nat.lt_of_lt_of_le hi h.size) hb).trans (h.block i hi hb), fun o => (k.froz o).trans (h.froz o)⟩
theorem Kb.drewN {b : Nat} {u v : World} (h : Kb b u v) (n : Nat) : Kb b u (v.drewN n) := by
  induction n with
  | zero => exact h
  | succ n ih => exact ⟨ih.os, ih.tape, ih.output, ih.size, ih.block, ih.froz⟩
theorem Kb.set {b : Nat} {u v : World} (h : Kb b u v) (o : Nat) (x : Value) : Kb b u (v.setCell ⟨b, o, none⟩ x) :=
  h.trans ⟨rfl, rfl, rfl, by simp [World.setCell], fun k _ hb => Below.heap_setCell _ _ _ _ (by simpa using hb), fun o' => World.frozen?_setCell _ _ _ _⟩
theorem Kb.alloc {b : Nat} {u v : World} (h : Kb b u v) (hb : b < v.heap.size) (o : Obj) : Kb b u (v.alloc o) :=
  h.trans ⟨rfl, rfl, rfl, by simp, fun k hk _ => Below.heap_alloc _ _ _ hk, fun o' => World.frozen?_of_block (w := v) (Below.heap_alloc _ _ _ hb)⟩
theorem Kb.cell {b : Nat} {w w' : World} (h : Kb b w w') {k o : Nat} (hk : k < w.heap.size) (hb : k ≠ b) : w'.cell? ⟨k, o, none⟩ = w.cell? ⟨k, o, none⟩ :=
  World.cell?_of_block (w := w) (h.block k hk hb)
/-- The document's reader, as it lies in memory. -/
structure RD (w : World) (b : Nat) (s : ByteArray) (x : St) (it : Value) : Prop where
  S : w.cell? ⟨b, 0, none⟩ = some (.string s)
  A : w.cell? ⟨b, 1, none⟩ = some (.int .i64 x.a)
  E : w.cell? ⟨b, 2, none⟩ = some (.int .i64 x.e)
  P : w.cell? ⟨b, 3, none⟩ = some (.int .i64 x.p)
  I : w.cell? ⟨b, 4, none⟩ = some it
  F : ∀ o, w.frozen? ⟨b, o, none⟩ = false
  lt : b < w.heap.size
theorem cell_set_same (w : World) (b o : Nat) (v u : Value) (h : w.cell? ⟨b, o, none⟩ = some u) : (w.setCell ⟨b, o, none⟩ v).cell? ⟨b, o, none⟩ = some v :=
  World.cell?_setCell_same _ _ _ h
theorem cell_set_off (w : World) (b o o' : Nat) (v : Value) (h : o ≠ o') : (w.setCell ⟨b, o, none⟩ v).cell? ⟨b, o', none⟩ = w.cell? ⟨b, o', none⟩ :=
  World.cell?_setCell_other _ _ _ _ (by intro e; simp only [Addr.mk.injEq, and_true, true_and] at e; omega)
theorem RD.drewN {w : World} {b : Nat} {s : ByteArray} {x : St} {it : Value} (h : RD w b s x it) (n : Nat) : RD (w.drewN n) b s x it := by
  induction n with
  | zero => exact h
  | succ n ih => exact ⟨ih.S, ih.A, ih.E, ih.P, ih.I, ih.F, ih.lt⟩
/-- Where the reader is, off memory: for a loop's measure. -/
def atOf (w : World) (b : Nat) : Nat := (intOf ((w.cell? ⟨b, 1, none⟩).getD undef)).toNat
theorem RD.atOf {w : World} {b : Nat} {s : ByteArray} {x : St} {it : Value} (h : RD w b s x it) : atOf w b = x.a := by
  simp [Go.Proofs.YtdebjhdafnpfkabGreatDoor.atOf, h.A, intOf]
end Go.Proofs.YtdebjhdafnpfkabGreatDoor

namespace Go.Proofs.YtdebjhdafnpfkabGreatDoor
open Go.ChangeShapes Go.WideShapes Go.ChangeAt Go.RowKit
set_option linter.unusedVariables false
/-- As Kb, and of block b the cells but 1 and 2 are as they were. -/
structure Kc (b : Nat) (w w' : World) : Prop where
  kb : Kb b w w'
  off : ∀ o, o ≠ 1 → o ≠ 2 → w'.cell? ⟨b, o, none⟩ = w.cell? ⟨b, o, none⟩
theorem Kc.refl (b : Nat) (w : World) : Kc b w w := ⟨Kb.refl _ _, fun _ _ _ => rfl⟩
theorem Kc.trans {b : Nat} {u v w : World} (h : Kc b u v) (k : Kc b v w) : Kc b u w := ⟨h.kb.trans k.kb, fun o h1 h2 => (k.off o h1 h2).trans (h.off o h1 h2)⟩
theorem Kc.drewN {b : Nat} {u v : World} (h : Kc b u v) (n : Nat) : Kc b u (v.drewN n) := by
  refine ⟨h.kb.drewN n, fun o h1 h2 => ?_⟩
  rw [← h.off o h1 h2]
  clear h
  induction n with
  | zero => rfl
  | succ n ih => exact ih
theorem Kc.drew {b : Nat} {u v : World} (h : Kc b u v) : Kc b u v.drew := h.drewN 1
theorem Kc.set {b : Nat} {u v : World} (h : Kc b u v) (o : Nat) (x : Value) (ho : o = 1 ∨ o = 2) : Kc b u (v.setCell ⟨b, o, none⟩ x) :=
  ⟨h.kb.set o x, fun o' h1 h2 => (World.cell?_setCell_other _ _ _ _ (by intro e; simp only [Addr.mk.injEq, and_true, true_and] at e; omega)).trans (h.off o' h1 h2)⟩
theorem Kc.alloc {b : Nat} {u v : World} (h : Kc b u v) (hb : b < v.heap.size) (o : Obj) : Kc b u (v.alloc o) :=
  ⟨h.kb.alloc hb o, fun o' h1 h2 => (World.cell?_of_block (w := v) (Below.heap_alloc _ _ _ hb)).trans (h.off o' h1 h2)⟩
/-- The program's place in a text: the text, the place, the line. -/
structure PC (w : World) (b : Nat) (s : ByteArray) (a : Nat) : Prop where
  T : w.cell? ⟨b, 0, none⟩ = some (.string s)
  A : w.cell? ⟨b, 1, none⟩ = some (.int .i64 a)
  L : w.cell? ⟨b, 2, none⟩ = some (.int .i64 (lineAt s a))
  F : ∀ o, w.frozen? ⟨b, o, none⟩ = false
  lt : b < w.heap.size
theorem PC.drewN {w : World} {b : Nat} {s : ByteArray} {a : Nat} (h : PC w b s a) (n : Nat) : PC (w.drewN n) b s a := by
  induction n with
  | zero => exact h
  | succ n ih => exact ⟨ih.T, ih.A, ih.L, ih.F, ih.lt⟩
theorem PC.of_block {w w' : World} {b : Nat} {s : ByteArray} {a : Nat} (h : PC w b s a) (hb : w'.heap[b]? = w.heap[b]?) (hz : w.heap.size ≤ w'.heap.size) : PC w' b s a :=
  ⟨(World.cell?_of_block (w := w) hb).trans h.T, (World.cell?_of_block (w := w) hb).trans h.A, (World.cell?_of_block (w := w) hb).trans h.L,
   fun o => (World.frozen?_of_block (w := w) hb).trans (h.F o), Nat.lt_of_lt_of_le h.lt hz⟩
theorem PC.alloc {w : World} {b : Nat} {s : ByteArray} {a : Nat} (h : PC w b s a) (o : Obj) : PC (w.alloc o) b s a :=
  h.of_block (Below.heap_alloc _ _ _ h.lt) (by simp)
theorem PC.set1 {w : World} {b : Nat} {s : ByteArray} {a : Nat} (h : PC w b s a) (hl : bt s a ≠ 10) : PC (w.setCell ⟨b, 1, none⟩ (.int .i64 ((a : Int) + 1))) b s (a + 1) :=
  ⟨(cell_set_off _ _ _ _ _ (by omega)).trans h.T, cell_set_same _ _ _ _ _ h.A, by rw [lineAt, if_neg hl]; exact (cell_set_off _ _ _ _ _ (by omega)).trans h.L,
   fun o => (World.frozen?_setCell _ _ _ _).trans (h.F o), by simpa [World.setCell] using h.lt⟩
theorem PC.set2 {w : World} {b : Nat} {s : ByteArray} {a : Nat} (h : PC w b s a) (hl : bt s a = 10) :
    PC ((w.setCell ⟨b, 2, none⟩ (.int .i64 ((lineAt s a : Int) + 1))).setCell ⟨b, 1, none⟩ (.int .i64 ((a : Int) + 1))) b s (a + 1) :=
  ⟨(cell_set_off _ _ _ _ _ (by omega)).trans ((cell_set_off _ _ _ _ _ (by omega)).trans h.T), cell_set_same _ _ _ _ _ ((cell_set_off _ _ _ _ _ (by omega)).trans h.A),
   by rw [lineAt, if_pos hl]; exact (cell_set_off _ _ _ _ _ (by omega)).trans (cell_set_same _ _ _ _ _ h.L),
   fun o => ((World.frozen?_setCell _ _ _ _).trans (World.frozen?_setCell _ _ _ _)).trans (h.F o), by simpa [World.setCell] using h.lt⟩
theorem PC.atOf {w : World} {b : Nat} {s : ByteArray} {a : Nat} (h : PC w b s a) : atOf w b = a := by
  simp [Go.Proofs.YtdebjhdafnpfkabGreatDoor.atOf, h.A, intOf]
theorem PC.kc {w w' : World} {b : Nat} {s : ByteArray} {a a' : Nat} (h : PC w b s a) (k : Kc b w w') (h' : PC w' b s a') : PC w' b s a' := h'
theorem plineAt_le (s : ByteArray) : ∀ a, lineAt s a ≤ a + 1
  | 0 => Nat.le_refl _
  | a + 1 => by
    have := plineAt_le s a
    unfold lineAt
    split <;> omega
theorem lineAt_skip (p : Nat → Bool) (s : ByteArray) (hp : p 10 = false) : ∀ n a, lineAt s (skip p s n a) = lineAt s a
  | 0, a => rfl
  | n + 1, a => by
    unfold skip
    split
    · rename_i hc
      rw [lineAt_skip p s hp n (a + 1)]
      show (if bt s a = 10 then _ else _) = _
      rw [if_neg]
      intro e
      rw [e, hp] at hc
      exact absurd hc.2 (by simp)
    · rfl
theorem lineAt_scan (p : Nat → Bool) (s : ByteArray) (hp : p 10 = false) (a : Nat) : lineAt s (scan p s a) = lineAt s a := lineAt_skip p s hp _ a
/-- A panic with a Fault of that kind and that line. -/
structure Pan (b : Nat) (w : World) (e : Ending) (w' : World) (k l q : Nat) : Prop where
  e : e = .panicked [{ v := .iface 50 (.pointer (some ⟨q, 0, none⟩)), recovered := false }]
  ge : w.heap.size ≤ q
  lt : q < w'.heap.size
  K : w'.cell? ⟨q, 0, none⟩ = some (.int .i64 k)
  L : w'.cell? ⟨q, 1, none⟩ = some (.int .i64 l)
  kb : Kb b w w'
theorem Pan.trans {b : Nat} {w w1 w' : World} {e : Ending} {k l q : Nat} (h : Kb b w w1) (p : Pan b w1 e w' k l q) : Pan b w e w' k l q :=
  ⟨p.e, Nat.le_trans h.size p.ge, p.lt, p.K, p.L, h.trans p.kb⟩
/-- What is wrong was told. -/
def PBad (s : ByteArray) (b : Nat) (w : World) (e : Ending) (w' : World) (y : St) : Prop := y.e ≠ 0 ∧ ∃ q, Pan b w e w' y.e (lineAt s y.p) q
theorem PBad.trans {s : ByteArray} {b : Nat} {w w1 w' : World} {e : Ending} {y : St} (h : Kb b w w1) (p : PBad s b w1 e w' y) : PBad s b w e w' y :=
  ⟨p.1, p.2.elim fun q hq => ⟨q, hq.trans h⟩⟩
/-- It went well. -/
structure POk (s : ByteArray) (b : Nat) (w w' : World) (y : St) : Prop where
  e : y.e = 0
  pc : PC w' b s y.a
  kc : Kc b w w'
theorem POk.trans {s : ByteArray} {b : Nat} {w w1 w' : World} {y z : St} (h : POk s b w w1 y) (p : POk s b w1 w' z) : POk s b w w' z := ⟨p.e, p.pc, h.kc.trans p.kc⟩
end Go.Proofs.YtdebjhdafnpfkabGreatDoor

namespace Go.Proofs.YtdebjhdafnpfkabGreatDoor
open Go.ChangeShapes Go.WideShapes Go.ChangeAt Go.RowKit
set_option linter.unusedVariables false
theorem ret_bool' {a b : Bool} (h : a = b) : Ending.returned (.bool a) = .returned (.bool b) := by rw [h]
theorem ret_u8 {a b : Int} (h : a = b) : Ending.returned (.int .u8 a) = .returned (.int .u8 b) := by rw [h]
theorem done_any (b : Nat) (s : ByteArray) (a : Nat) (w : World) (hs : s.size ≤ 4000) (ha : a ≤ s.size) (h : PC w b s a) :
    Calls Tryz.prog 29 #[.pointer (some ⟨b, 0, none⟩)] w fun e w' => e = .returned (.bool (decide (a = s.size))) ∧ ∃ n, w' = w.drewN n := by
  obtain ⟨hT, hA, hL, hF, hlt⟩ := h
  go_enter Tryz.func29, Tryz.ntmps29
  go_wp2
  go_quiet (fail)
  go_wp2
  go_ret
  exact ⟨ret_bool' (by rw [Bool.eq_iff_iff]; simp; omega), _, rfl⟩
/-- The byte that comes, 0 at the end. -/
theorem peek_any (b : Nat) (s : ByteArray) (a : Nat) (w : World) (hs : s.size ≤ 4000) (ha : a ≤ s.size) (h : PC w b s a) :
    Calls Tryz.prog 47 #[.pointer (some ⟨b, 0, none⟩)] w fun e w' => e = .returned (.int .u8 (bt s a)) ∧ ∃ n, w' = w.drewN n := by
  have h' : Hid (PC w b s a) := h
  clear h
  by_cases he : a = s.size
  · have hd : decide (a = s.size) = true := by simpa using he
    have hb : Hid (bt s a = 0) := by unfold Hid bt; rw [dif_neg (by omega)]
    go_enter Tryz.func47, Tryz.ntmps47
    go_wp2_with fail
    refine (done_any b s a _ hs ha h'.out).mono ?_
    rintro e w1 ⟨rfl, n, rfl⟩
    go_wp2_with fail
    go_ret
    exact ⟨ret_u8 (by rw [hb.out]; rfl), _, rfl⟩
  · have hd : decide (a = s.size) = false := by simpa using he
    have hl : a < s.size := by omega
    have hb : Hid ((s[a].toNat : Int) = bt s a) := by unfold Hid; rw [bt_in s a hl]
    obtain ⟨hT, hA, hL, hF, hlt⟩ := h'.out
    clear he
    go_enter Tryz.func47, Tryz.ntmps47
    go_wp2_with fail
    refine (done_any b s a _ hs ha h'.out).mono ?_
    rintro e w1 ⟨rfl, n, rfl⟩
    go_wp2_with fail
    go_quiet (fail)
    go_wp2
    go_ret
    exact ⟨ret_u8 hb.out, _, World.drewN_drewN _ _ _⟩
theorem step_any (b : Nat) (s : ByteArray) (a : Nat) (w : World) (hs : s.size ≤ 4000) (ha : a < s.size) (h : PC w b s a) :
    Calls Tryz.prog 48 #[.pointer (some ⟨b, 0, none⟩)] w fun e w' => e = .returned (.tuple #[]) ∧ PC w' b s (a + 1) ∧ Kc b w w' := by
  have h' : Hid (PC w b s a) := h
  have hl1 := plineAt_le s a
  obtain ⟨hT, hA, hL, hF, hlt⟩ := h
  by_cases h10 : bt s a = 10
  · have t : ((s[a].toNat : Int) == 10) = true := by rw [bt_in s a ha]; simp [h10]
    have H : Hid (bt s a = 10) := h10
    clear h10
    go_enter Tryz.func48, Tryz.ntmps48
    go_wp2
    go_quiet (fail)
    go_wp2
    go_returns
    exact ⟨rfl, (h'.out.drewN _).set2 H.out, (((Kc.refl _ _).drewN _).set _ _ (.inr rfl)).set _ _ (.inl rfl)⟩
  · have t : ((s[a].toNat : Int) == 10) = false := by rw [bt_in s a ha]; simp; omega
    have H : Hid (bt s a ≠ 10) := h10
    clear h10
    go_enter Tryz.func48, Tryz.ntmps48
    go_wp2
    go_quiet (fail)
    go_wp2
    go_returns
    exact ⟨rfl, (h'.out.drewN _).set1 H.out, ((Kc.refl _ _).drewN _).set _ _ (.inl rfl)⟩
theorem failAt_any (b : Nat) (k l : Nat) (w : World) (hb : b < w.heap.size) :
    Calls Tryz.prog 26 #[.int .i64 k, .int .i64 l] w fun e w' => ∃ q, Pan b w e w' k l q := by
  go_enter Tryz.func26, Tryz.ntmps26
  go_wp2
  refine ⟨rfl, w.heap.size, ⟨rfl, Nat.le_refl _, by simp, by simp, by simp, (Kb.refl _ _).alloc hb _⟩⟩
theorem fail_any (b : Nat) (s : ByteArray) (a : Nat) (k : Nat) (w : World) (h : PC w b s a) :
    Calls Tryz.prog 44 #[.pointer (some ⟨b, 0, none⟩), .int .i64 k] w fun e w' => ∃ q, Pan b w e w' k (lineAt s a) q := by
  have h' : Hid (PC w b s a) := h
  obtain ⟨hT, hA, hL, hF, hlt⟩ := h
  go_enter Tryz.func44, Tryz.ntmps44
  go_wp2_with fail
  refine (failAt_any b k (lineAt s a) _ hlt).mono ?_
  rintro e w1 ⟨q, hq⟩
  have he := hq.e
  subst he
  exact ⟨rfl, q, hq⟩
end Go.Proofs.YtdebjhdafnpfkabGreatDoor

namespace Go.Proofs.YtdebjhdafnpfkabGreatDoor
open Go.ChangeShapes Go.WideShapes Go.ChangeAt Go.RowKit
set_option linter.unusedVariables false
set_option linter.unusedSimpArgs false
theorem ret_str' {a b : ByteArray} (h : a = b) : Ending.returned (.string a) = .returned (.string b) := by rw [h]
theorem isBlank_any (c : Nat) (w : World) (hc : c < 256) :
    Calls Tryz.prog 62 #[.int .u8 c] w fun e w' => e = .returned (.bool (blankB false c)) ∧ w' = w := by
  go_enter Tryz.func62, Tryz.ntmps62
  go_wp2
  all_goals go_ret
  all_goals exact ⟨ret_bool' (Bool.eq_iff_iff.2 (by simp only [blankB, decide_eq_true_eq, Bool.or_eq_true, Bool.and_eq_true, bne_iff_ne, ne_eq, beq_iff_eq, true_iff, Bool.false_eq_true, false_and, or_false, true_and]; omega)), rfl⟩
theorem isOfName_any (c : Nat) (w : World) (hc : c < 256) :
    Calls Tryz.prog 64 #[.int .u8 c] w fun e w' => e = .returned (.bool (letterB c)) ∧ w' = w := by
  go_enter Tryz.func64, Tryz.ntmps64
  go_wp2
  all_goals go_ret
  all_goals exact ⟨ret_bool' (Bool.eq_iff_iff.2 (by simp only [letterB, decide_eq_true_eq, Bool.or_eq_true, Bool.and_eq_true, bne_iff_ne, ne_eq, beq_iff_eq, true_iff, Bool.false_eq_true, false_and, or_false, true_and]; omega)), rfl⟩
theorem isInLine_any (c : Nat) (w : World) (hc : c < 256) :
    Calls Tryz.prog 49 #[.int .u8 c] w fun e w' => e = .returned (.bool (inLine c)) ∧ w' = w := by
  go_enter Tryz.func49, Tryz.ntmps49
  go_wp2
  all_goals go_ret
  all_goals exact ⟨ret_bool' (Bool.eq_iff_iff.2 (by simp only [inLine, decide_eq_true_eq, Bool.or_eq_true, Bool.and_eq_true, bne_iff_ne, ne_eq, beq_iff_eq, true_iff, Bool.false_eq_true, false_and, or_false, true_and]; omega)), rfl⟩
theorem mayStand_any (c : Nat) (w : World) (hc : c < 256) :
    Calls Tryz.prog 43 #[.int .u8 c] w fun e w' => e = .returned (.bool (okByte c)) ∧ w' = w := by
  go_enter Tryz.func43, Tryz.ntmps43
  go_wp2
  all_goals go_ret
  all_goals exact ⟨ret_bool' (Bool.eq_iff_iff.2 (by simp only [okByte, decide_eq_true_eq, Bool.or_eq_true, Bool.and_eq_true, bne_iff_ne, ne_eq, beq_iff_eq, true_iff, Bool.false_eq_true, false_and, or_false, true_and]; omega)), rfl⟩
theorem isBlankInList_any (c : Nat) (w : World) (hc : c < 256) :
    Calls Tryz.prog 99 #[.int .u8 c] w fun e w' => e = .returned (.bool (blankB true c)) ∧ w' = w := by
  cases hb : blankB false c
  · have h : ¬ (c = 32 ∨ c = 9) := by simpa [blankB] using hb
    go_enter Tryz.func99, Tryz.ntmps99
    go_wp2_with fail
    refine (isBlank_any c _ hc).mono ?_
    rintro e w1 ⟨rfl, rfl⟩
    rw [hb]
    go_wp2_with fail
    go_ret
    exact ⟨ret_bool' (Bool.eq_iff_iff.2 (by simp only [blankB, decide_eq_true_eq, beq_iff_eq, true_and]; omega)), rfl⟩
  · have h : c = 32 ∨ c = 9 := by simpa [blankB] using hb
    go_enter Tryz.func99, Tryz.ntmps99
    go_wp2_with fail
    refine (isBlank_any c _ hc).mono ?_
    rintro e w1 ⟨rfl, rfl⟩
    rw [hb]
    go_wp2_with fail
    go_ret
    exact ⟨ret_bool' (Bool.eq_iff_iff.2 (by simp only [blankB, decide_eq_true_eq, true_iff, true_and]; omega)), rfl⟩
end Go.Proofs.YtdebjhdafnpfkabGreatDoor

namespace Go.Proofs.YtdebjhdafnpfkabGreatDoor
open Go.ChangeShapes Go.WideShapes Go.ChangeAt Go.RowKit
set_option linter.unusedVariables false
set_option linter.unusedSimpArgs false
theorem take_isBlank (b : Nat) (s : ByteArray) (a : Nat) (w : World) (hs : s.size ≤ 4000) (ha : a ≤ s.size) (h : PC w b s a) :
    Calls Tryz.prog 42 #[.pointer (some ⟨b, 0, none⟩), .func (.func 62) #[] #[]] w fun e w' =>
      e = .returned (.string (s.extract a (scan (blankB false) s a))) ∧ PC w' b s (scan (blankB false) s a) ∧ Kc b w w' := by
  have hA := h.A
  have h' : Hid (PC w b s a) := h
  clear h
  go_enter Tryz.func42, Tryz.ntmps42
  go_wp2
  go_loopw [] (fun wr => ∃ a' : Nat, Hid (PC wr b s a') ∧ Kc b w wr ∧ Hid (scan (blankB false) s a = scan (blankB false) s a') ∧ a ≤ a' ∧ a' ≤ s.size) (fun wr => s.size - atOf wr b)
  case atStart => exact ⟨a, h', Kc.refl _ _, rfl, Nat.le_refl _, ha⟩
  case round =>
    clear h' hA
    obtain ⟨a', h1, hk, hsc, ha1, ha'⟩ := hrel
    obtain ⟨hT, hA, hL, hF, hlt⟩ := h1.out
    by_cases hl : a' < s.size
    · have hd : decide (a' = s.size) = false := by simp; omega
      have hbt := bt_in s a' hl
      cases hb : (blankB false) (bt s a')
      · have hfin : Hid (scan (blankB false) s a = a') := by
          unfold Hid
          rw [hsc.out, scan_stop _ _ _ (fun _ => hb)]
        go_wp2
        go_quiet (first | (go_at_call 29; exact Calls.quiet_of (done_any b s a' _ hs ha' (h1.out.drewN _))) | (go_at_call 62; exact Calls.quiet_of_same (isBlank_any _ _ (bt_lt _ _))))
        go_wp2
        go_quiet (fail)
        go_wp2
        go_ret
        exact ⟨ret_str' (by rw [hfin.out]), by rw [hfin.out]; exact (h1.out.drewN _).drewN _, (hk.drewN _).drewN _⟩
      · have hst : Hid (scan (blankB false) s a' = scan (blankB false) s (a' + 1)) := scan_step _ _ _ hl hb
        go_wp2
        go_quiet (first | (go_at_call 29; exact Calls.quiet_of (done_any b s a' _ hs ha' (h1.out.drewN _))) | (go_at_call 62; exact Calls.quiet_of_same (isBlank_any _ _ (bt_lt _ _))))
        go_wp2_with fail
        refine (step_any b s a' _ hs hl (h1.out.drewN _)).mono ?_
        rintro e w1 ⟨rfl, h2, hk2⟩
        have h2' : Hid (PC w1 b s (a' + 1)) := h2
        clear h2
        go_wp2
        go_roundw
        case rel => exact ⟨a' + 1, h2', (hk.drewN _).trans hk2, hsc.out.trans hst.out, by omega, by omega⟩
        case measure => rw [h2'.out.atOf, h1.out.atOf]; omega
    · have e1 : a' = s.size := by omega
      have hd : decide (a' = s.size) = true := by simp; omega
      have hfin : Hid (scan (blankB false) s a = a') := by
        unfold Hid
        rw [hsc.out, scan_stop _ _ _ (fun h => absurd h hl)]
      have H : Hid (a' = s.size) := e1
      clear e1
      go_wp2
      go_quiet ((go_at_call 29; exact Calls.quiet_of (done_any b s a' _ hs ha' (h1.out.drewN _))))
      go_wp2
      go_quiet (fail)
      go_wp2
      go_ret
      exact ⟨ret_str' (by rw [hfin.out]), by rw [hfin.out]; exact (h1.out.drewN _).drewN _, (hk.drewN _).drewN _⟩
end Go.Proofs.YtdebjhdafnpfkabGreatDoor
