import Derived.Test.YtdebjhdafnpfkabGreatDoorK19
import Derived.Test.YtdebjhdafnpfkabGreatDoorK05
import Derived.Test.YtdebjhdafnpfkabGreatDoorK08
import Derived.Lib.AppendStr
import Derived.Lib.Builder
import Derived.Test.YtdebjhdafnpfkabGreatDoorK02
import Derived.Test.YtdebjhdafnpfkabGreatDoorK15
import Derived.Test.YtdebjhdafnpfkabGreatDoorK07
import Derived.Test.YtdebjhdafnpfkabGreatDoorK01
import Derived.Test.YtdebjhdafnpfkabGreatDoorK18
namespace Go.Proofs.YtdebjhdafnpfkabGreatDoor
open Go.ChangeShapes Go.WideShapes Go.ChangeAt Go.RowKit
set_option linter.unusedVariables false
set_option linter.unusedSimpArgs false
/-- Below B all is as it was, but for b. -/
structure Kp (b B : Nat) (w w' : World) : Prop where
  os : w'.os = w.os
  tape : w'.tape = w.tape
  output : w'.output = w.output
  size : w.heap.size ≤ w'.heap.size
  block : ∀ k, k < B → k ≠ b → w'.heap[k]? = w.heap[k]?
  typ : ∀ k cs T fr, w.heap[k]? = some (.cells cs T fr) → T ≠ 5 → k ≠ b → w'.heap[k]? = w.heap[k]?
theorem Kp.refl (b B : Nat) (w : World) : Kp b B w w := ⟨rfl, rfl, rfl, Nat.le_refl _, fun _ _ _ => rfl, fun _ _ _ _ _ _ _ => rfl⟩
theorem Kp.trans {b B : Nat} {u v w : World} (h : Kp b B u v) (k : Kp b B v w) : Kp b B u w :=
  ⟨k.os.trans h.os, k.tape.trans h.tape, k.output.trans h.output, Nat.le_trans h.size k.size, fun i h1 h2 => (k.block i h1 h2).trans (h.block i h1 h2),
   fun i cs T fr h1 h2 h3 => (k.typ i cs T fr ((h.typ i cs T fr h1 h2 h3).trans h1) h2 h3).trans (h.typ i cs T fr h1 h2 h3)⟩
theorem lt_of_some {w : World} {k : Nat} {o : Obj} (h : w.heap[k]? = some o) : k < w.heap.size := (Array.getElem?_eq_some_iff.1 h).1
theorem Kp.all {b B : Nat} {w w' : World} (h : Below w.heap.size w w') (hB : B ≤ w.heap.size) : Kp b B w w' := ⟨h.os, h.tape, h.output, h.size, fun k hk _ => h.block k (by omega), fun k cs T fr h1 _ _ => h.block k (lt_of_some h1)⟩
theorem Kp.below {b B : Nat} {u v w : World} (h : Kp b B u v) (k : Below v.heap.size v w) (hB : B ≤ v.heap.size) : Kp b B u w := h.trans (Kp.all k hB)
theorem Kp.alloc {b B : Nat} {u v : World} (h : Kp b B u v) (hB : B ≤ v.heap.size) (o : Obj) : Kp b B u (v.alloc o) := h.trans (Kp.all ((Below.refl _ _).alloc (Nat.le_refl _) o) hB)
theorem Kp.grown {b B : Nat} {u v w : World} {row : Option Nat} (h : Kp b B u v) (hg : v.grownBy w row) (hB : B ≤ v.heap.size) (hr : ∀ k, row = some k → B ≤ k) (ht : ∀ k cs T fr, v.heap[k]? = some (.cells cs T fr) → T ≠ 5 → row ≠ some k) : Kp b B u w :=
  h.trans ⟨hg.os, hg.tape, hg.output, hg.size, fun k hk _ => hg.block k (by omega) (fun e => by have := hr k e.symm; omega), fun k cs T fr h1 h2 _ => hg.block k (lt_of_some h1) (fun e => ht k cs T fr h1 h2 e.symm)⟩
theorem Kp.set {b B : Nat} {u v : World} (h : Kp b B u v) (o : Nat) (x : Value) : Kp b B u (v.setCell ⟨b, o, none⟩ x) :=
  h.trans ⟨rfl, rfl, rfl, by simp [World.setCell], fun k _ hk => Below.heap_setCell _ _ _ _ (by simpa using hk), fun k _ _ _ _ _ hk => Below.heap_setCell _ _ _ _ (by simpa using hk)⟩
theorem Kp.cell {b B : Nat} {w w' : World} (h : Kp b B w w') {p : Addr} (hp : p.block < B) (hb : p.block ≠ b) : w'.cell? p = w.cell? p := World.cell?_of_block (w := w) (h.block p.block hp hb)
/-- A page on its way: its text so far, as cells, and its width. -/
def PageP (p : Value) (B : Nat) (w : World) (b : Nat) (wd : Int) (bs : List Value) : Prop :=
  b < B ∧ ∃ v, w.heap[b]? = some (.cells #[p, v, .int .i64 wd] 88 (0, 0)) ∧ w.ownsRow B 5 1 v bs.length bs ∧ v.ownBlock ≠ some b
def PageAt (B : Nat) (w : World) (b : Nat) (wd : Int) (bs : List Value) : Prop := PageP (.pointer none) B w b wd bs ∨ PageP (.pointer (some ⟨b, 0, none⟩)) B w b wd bs
theorem PageP.lt {p : Value} {B : Nat} {w : World} {b : Nat} {wd : Int} {bs : List Value} (h : PageP p B w b wd bs) : b < w.heap.size := by
  obtain ⟨_, v, hb, _⟩ := h
  rcases Nat.lt_or_ge b w.heap.size with h' | h'
  · exact h'
  · simp [Array.getElem?_eq_none h'] at hb
theorem PageP.frame {p : Value} {B : Nat} {w w' : World} {b : Nat} {wd : Int} {bs : List Value} (h : PageP p B w b wd bs) (hb : Below w.heap.size w w') : PageP p B w' b wd bs := by
  have hl := h.lt
  obtain ⟨h1, v, h2, h3, h4⟩ := h
  exact ⟨h1, v, (hb.block b hl).trans h2, owns_frame h3 (fun k k1 k2 => hb.block k k2), h4⟩
theorem PageAt.frame {B : Nat} {w w' : World} {b : Nat} {wd : Int} {bs : List Value} (h : PageAt B w b wd bs) (hb : Below w.heap.size w w') : PageAt B w' b wd bs :=
  h.elim (fun h => .inl (h.frame hb)) (fun h => .inr (h.frame hb))
theorem PageP.used {p : Value} {B : Nat} {w : World} {b : Nat} {wd : Int} {bs : List Value} (h : PageP p B w b wd bs) (q : Value) : PageP q B (w.setCell ⟨b, 0, none⟩ q) b wd bs := by
  obtain ⟨hB, v, hb, hown, hne⟩ := h
  refine ⟨hB, v, ?_, ?_, hne⟩
  · simp [World.setCell, Array.getElem?_modify, hb]
  · refine hown.kept (row := some b) ⟨rfl, rfl, rfl, by simp [World.setCell], fun k _ hk => Below.heap_setCell _ _ _ _ (fun e => hk (by simp [e]))⟩ ?_
    exact Or.inr hne
theorem PageP.put {p v v' : Value} {B : Nat} {w : World} {b : Nat} {wd : Int} {bs' : List Value} (hB : b < B) (hb : w.heap[b]? = some (.cells #[p, v, .int .i64 wd] 88 (0, 0))) (hown : w.ownsRow B 5 1 v' bs'.length bs') :
    PageP p B (w.setCell ⟨b, 1, none⟩ v') b wd bs' := by
  have hne := Lib.ownBlock_ne hown hb (by decide)
  refine ⟨hB, v', ?_, ?_, hne⟩
  · simp [World.setCell, Array.getElem?_modify, hb]
  · exact hown.kept (row := some b) ⟨rfl, rfl, rfl, by simp [World.setCell], fun k _ hk => Below.heap_setCell _ _ _ _ (fun e => hk (by simp [e]))⟩ (Or.inr hne)
theorem size_builder : (Tryz.prog.info? 86).map (·.size) = some 2 := by kernel_rfl
theorem lies_page : liesAt Tryz.prog Tryz.prog.depth 88 (3 / Tryz.prog.cellsOf 88) 0 86 1 = true := by kernel_rfl
theorem noescape_run (v : Value) (w : World) : (callFunc 91 #[v]).run Tryz.prog w = .ok (.value v) w := by kernel_rfl
theorem info_byte : (Tryz.prog.info? 5).map (fun i => (i.zero, i.size, i.bytes)) = some (some (.int .u8 0), 1, 1) := by kernel_rfl
set_option maxHeartbeats 1000000 in
set_option maxRecDepth 100000 in
theorem pcheck_used (B b : Nat) (wd : Int) (bs : List Value) (w : World) (h : PageP (.pointer (some ⟨b, 0, none⟩)) B w b wd bs) :
    Calls Tryz.prog 78 #[.pointer (some ⟨b, 0, none⟩)] w fun e w' => e = .returned (.tuple #[]) ∧ w' = w := by
  obtain ⟨j, hj, _⟩ := Option.map_eq_some_iff.1 size_builder
  obtain ⟨_, v, hb, _⟩ := h
  have h0 : w.cell? ⟨b, 0, none⟩ = some (.pointer (some ⟨b, 0, none⟩)) := by rw [Lib.cell_of_heap hb]; rfl
  clear hb
  go_enter Tryz.func78, Tryz.ntmps78
  go_wp2
  rw [Lib.run_neq_ptr_same w _ Tryz.underlying84 hj]
  go_wp2
  go_end0
  exact ⟨rfl, rfl⟩
set_option maxHeartbeats 1000000 in
set_option maxRecDepth 100000 in
theorem pcheck_fresh (B b : Nat) (wd : Int) (bs : List Value) (w : World) (h : PageP (.pointer none) B w b wd bs) :
    Calls Tryz.prog 78 #[.pointer (some ⟨b, 0, none⟩)] w fun e w' => e = .returned (.tuple #[]) ∧ w' = w.setCell ⟨b, 0, none⟩ (.pointer (some ⟨b, 0, none⟩)) := by
  obtain ⟨j, hj, hjs⟩ := Option.map_eq_some_iff.1 size_builder
  obtain ⟨_, v, hb, _⟩ := h
  have h0 : w.cell? ⟨b, 0, none⟩ = some (.pointer none) := by rw [Lib.cell_of_heap hb]; rfl
  have hsh : w.shape? b = some (88, 3) := by simp [World.shape?, hb]
  have hfz : w.frozen? ⟨b, 0, none⟩ = false := Lib.frozen_of_heap hb 0
  clear hb
  go_enter Tryz.func78, Tryz.ntmps78
  go_wp2
  rw [Lib.run_to_unsafe w ⟨b, 0, none⟩ Tryz.underlying84 Tryz.underlying98 hj (by rw [hjs]; decide) hsh (Nat.zero_lt_succ 2)]
  simp only [Result.andThen]
  rw [Oper.upon_value]
  go_wp2
  rw [noescape_run]
  try simp only [Result.andThen]
  rw [Oper.upon_value]
  go_wp2
  rw [Lib.run_from_unsafe w ⟨b, 0, none⟩ Tryz.underlying98 Tryz.underlying84 hj hsh lies_page]
  simp only [Result.andThen]
  rw [Oper.upon_value]
  go_wp2
  go_end0
  exact ⟨rfl, rfl⟩
theorem pcheck (B b : Nat) (wd : Int) (bs : List Value) (w : World) (h : PageAt B w b wd bs) :
    Calls Tryz.prog 78 #[.pointer (some ⟨b, 0, none⟩)] w fun e w' => e = .returned (.tuple #[]) ∧ PageP (.pointer (some ⟨b, 0, none⟩)) B w' b wd bs ∧ Kp b B w w' := by
  rcases h with h | h
  · refine (pcheck_fresh B b wd bs w h).mono ?_
    rintro e w' ⟨rfl, rfl⟩
    exact ⟨rfl, h.used _, (Kp.refl b B w).set 0 _⟩
  · refine (pcheck_used B b wd bs w h).mono ?_
    rintro e w' ⟨rfl, rfl⟩
    exact ⟨rfl, h, Kp.refl b B _⟩
set_option maxHeartbeats 2000000 in
set_option maxRecDepth 100000 in
theorem pwrite (B b : Nat) (wd : Int) (bs : List Value) (s : ByteArray) (w : World) (h : PageAt B w b wd bs) (hlen : bs.length + s.size ≤ 140737488355328) (hBw : B ≤ w.heap.size) :
    Calls Tryz.prog 66 #[.pointer (some ⟨b, 0, none⟩), .string s] w fun e w' => e = .returned (.tuple #[.int .i64 s.size, .nilIface]) ∧ PageP (.pointer (some ⟨b, 0, none⟩)) B w' b wd (bs ++ Lib.strCells s) ∧ Kp b B w w' := by
  obtain ⟨i0, hi, hz0, hz1, hz2⟩ := info_parts info_byte
  go_enter Tryz.func66, Tryz.ntmps66
  go_wp2_with fail
  refine (pcheck B b wd bs _ h).mono ?_
  rintro e w1 ⟨rfl, h1, hb1⟩
  obtain ⟨hB, v, hbk, hown, hne⟩ := h1
  have c0 : w1.cell? ⟨b, 0, none⟩ = some (.pointer (some ⟨b, 0, none⟩)) := by rw [Lib.cell_of_heap hbk]; rfl
  have c1 : w1.cell? ⟨b, 1, none⟩ = some v := by rw [Lib.cell_of_heap hbk]; rfl
  go_wp2_with (at_builtin; refine Lib.wpList_append_own_string _ rfl _ _ 43 9 rfl B 5 i0 Tryz.underlying43 Tryz.underlying9 hi hz0 hz1 hz2 _ _ _ rfl hown s rfl ?c3 ?c4 ?c5 ?_)
  case c3 => unfold maxLen; omega
  case c4 => omega
  case c5 => have := hb1.size; omega
  intro v' w2 hown' hgrow _
  have hlt : b < w1.heap.size := PageP.lt ⟨hB, v, hbk, hown, hne⟩
  have hb2 : w2.heap[b]? = some (.cells #[.pointer (some ⟨b, 0, none⟩), v, .int .i64 wd] 88 (0, 0)) := by
    rw [hgrow.block b hlt (fun e => hne e.symm)]
    exact hbk
  have d0 : w2.cell? ⟨b, 0, none⟩ = some (.pointer (some ⟨b, 0, none⟩)) := by rw [Lib.cell_of_heap hb2]; rfl
  have d1 : w2.cell? ⟨b, 1, none⟩ = some v := by rw [Lib.cell_of_heap hb2]; rfl
  have f1 : w2.frozen? ⟨b, 1, none⟩ = false := Lib.frozen_of_heap hb2 1
  obtain ⟨ao, n', cap, rfl⟩ : ∃ ao n' cap, v' = .slice ao n' cap := by
    rcases hown'.2 with ⟨hv, _⟩ | ⟨g, cap, cur, hv, _⟩
    · exact ⟨_, _, _, hv⟩
    · exact ⟨_, _, _, hv⟩
  go_wp2
  go_ret2
  refine ⟨rfl, ?_, ?_⟩
  · exact PageP.put hB hb2 (bs' := bs ++ Lib.strCells s) (by simpa [Lib.strCells_length] using hown')
  · exact (hb1.grown hgrow (by have := hb1.size; omega) (fun k hk => (hown.lt k hk).1) (fun k cs T fr h1 h2 => Lib.ownBlock_ne hown h1 h2)).set 1 _
set_option maxHeartbeats 2000000 in
set_option maxRecDepth 100000 in
theorem pwriteByte (B b : Nat) (wd : Int) (bs : List Value) (c : Int) (w : World) (h : PageAt B w b wd bs) (hlen : bs.length + 1 ≤ 140737488355328) (hBw : B ≤ w.heap.size) :
    Calls Tryz.prog 67 #[.pointer (some ⟨b, 0, none⟩), .int .u8 c] w fun e w' => e = .returned .nilIface ∧ PageP (.pointer (some ⟨b, 0, none⟩)) B w' b wd (bs ++ [.int .u8 c]) ∧ Kp b B w w' := by
  obtain ⟨i0, hi, hz0, hz1, hz2⟩ := info_parts info_byte
  go_enter Tryz.func67, Tryz.ntmps67
  go_wp2_with fail
  refine (pcheck B b wd bs _ h).mono ?_
  rintro e w1 ⟨rfl, h1, hb1⟩
  obtain ⟨hB, v, hbk, hown, hne⟩ := h1
  have c0 : w1.cell? ⟨b, 0, none⟩ = some (.pointer (some ⟨b, 0, none⟩)) := by rw [Lib.cell_of_heap hbk]; rfl
  have c1 : w1.cell? ⟨b, 1, none⟩ = some v := by rw [Lib.cell_of_heap hbk]; rfl
  go_wp2_with (at_builtin; refine wpList_append_own _ rfl _ _ 43 rfl B 5 i0 (.int .u8 0) 1 1 Tryz.underlying43 hi hz0 hz1 hz2 rfl (by decide) _ _ _ rfl (hown.alloc _) ⟨w1.heap.size, 0, none⟩ 1 1 [.int .u8 c] rfl rfl ?c1 ?c2 ?c3 ?c4 ?c5 ?_)
  case c1 =>
    intro j u hj
    match j, hj with
    | 0, hj => simp at hj; subst hj; simp [Addr.add]
  case c2 => intro u hu; simp at hu; subst hu; rfl
  case c3 => unfold maxLen; omega
  case c4 => omega
  case c5 => have := hb1.size; simp; omega
  intro v' w2 hown' hgrow _
  have hlt : b < w1.heap.size := PageP.lt ⟨hB, v, hbk, hown, hne⟩
  have hb2 : w2.heap[b]? = some (.cells #[.pointer (some ⟨b, 0, none⟩), v, .int .i64 wd] 88 (0, 0)) := by
    rw [hgrow.block b (by simp; omega) (fun e => hne e.symm), Lib.alloc_old w1 _ b hlt]
    exact hbk
  have d0 : w2.cell? ⟨b, 0, none⟩ = some (.pointer (some ⟨b, 0, none⟩)) := by rw [Lib.cell_of_heap hb2]; rfl
  have d1 : w2.cell? ⟨b, 1, none⟩ = some v := by rw [Lib.cell_of_heap hb2]; rfl
  have f1 : w2.frozen? ⟨b, 1, none⟩ = false := Lib.frozen_of_heap hb2 1
  obtain ⟨g, cap, rfl⟩ : ∃ g cap, v' = .slice (some ⟨g, 0, none⟩) (bs.length + 1) cap := by
    rcases hown'.2 with ⟨_, h0⟩ | ⟨g, cap, cur, hv, _⟩
    · omega
    · exact ⟨g, cap, hv⟩
  go_wp2
  go_ret
  refine ⟨rfl, ?_, ?_⟩
  · exact PageP.put hB hb2 (bs' := bs ++ [.int .u8 c]) (by simpa using hown')
  · exact ((hb1.alloc (by have := hb1.size; omega) _).grown hgrow (by have := hb1.size; simp; omega) (fun k hk => (hown.lt k hk).1) (fun k cs T fr h1 h2 => Lib.ownBlock_ne (hown.alloc _) h1 h2)).set 1 _
/-- A line more. -/
theorem writeLine_any (B b : Nat) (wd : Int) (bs : List Value) (s : ByteArray) (w : World) (h : PageAt B w b wd bs) (hlen : bs.length + s.size + 1 ≤ 140737488355328) (hBw : B ≤ w.heap.size) :
    Calls Tryz.prog 53 #[ptr b, .string s] w fun e w' => e = .returned (.tuple #[]) ∧ PageAt B w' b wd (bs ++ Lib.strCells s ++ [.int .u8 10]) ∧ Kp b B w w' := by
  have H : Hid (PageAt B w b wd bs) := h
  clear h
  go_enter Tryz.func53, Tryz.ntmps53
  go_wp2_with fail
  refine (pwrite B b wd bs s _ H.out (by omega) hBw).mono ?_
  rintro e w1 ⟨rfl, h1, hb1⟩
  have H1 : Hid (PageAt B w1 b wd (bs ++ Lib.strCells s)) := .inr h1
  have HB1 : Hid (Kp b B w w1) := hb1
  have hz := hb1.size
  clear h1 hb1
  go_wp2_with fail
  refine (pwriteByte B b wd _ 10 _ H1.out (by simp [Lib.strCells_length]; omega) (by omega)).mono ?_
  rintro e w2 ⟨rfl, h2, hb2⟩
  have H2 : Hid (PageAt B w2 b wd (bs ++ Lib.strCells s ++ [.int .u8 10])) := .inr h2
  have HB2 : Hid (Kp b B w w2) := HB1.out.trans hb2
  clear h2 hb2
  go_wp2_with fail
  go_returns
  exact ⟨rfl, H2.out, HB2.out⟩
end Go.Proofs.YtdebjhdafnpfkabGreatDoor

namespace Go.Proofs.YtdebjhdafnpfkabGreatDoor
set_option linter.unusedVariables false
def pairsOf (items : List It) : List It := items.filter (fun t => decide (t.k = 61))
def pathsOf (items : List It) : List ByteArray := (pairsOf items).map (fun t => jn t.full)
end Go.Proofs.YtdebjhdafnpfkabGreatDoor

namespace Go.Proofs.YtdebjhdafnpfkabGreatDoor
open Go.ChangeShapes Go.WideShapes Go.ChangeAt Go.RowKit
set_option linter.unusedVariables false
set_option linter.unusedSimpArgs false
theorem pairsOf_take (l : List It) (k : Nat) (hk : k < l.length) : pairsOf (l.take (k + 1)) = pairsOf (l.take k) ++ (if l[k].k = 61 then [l[k]] else []) := by
  unfold pairsOf
  rw [List.take_succ_eq_append_getElem hk, List.filter_append]
  congr 1
  by_cases h : l[k].k = 61
  · simp [h]
  · simp [h]
theorem pathsOf_len (l : List It) : (pathsOf l).length ≤ l.length := by
  unfold pathsOf pairsOf
  rw [List.length_map]
  exact List.length_filter_le _ _
end Go.Proofs.YtdebjhdafnpfkabGreatDoor

namespace Go.Proofs.YtdebjhdafnpfkabGreatDoor
open Go.ChangeShapes Go.WideShapes Go.ChangeAt Go.RowKit
set_option linter.unusedVariables false
set_option linter.unusedSimpArgs false
theorem asrt_pair (v : Value) (w : World) : (Instr.typeAssert (.iface 61 v) 93 61 true).run Tryz.prog w = .ok (.tuple #[v, .bool true]) w := by kernel_rfl
theorem asrt_hdr (v : Value) (w : World) : (Instr.typeAssert (.iface 124 v) 93 61 true).run Tryz.prog w = .ok (.tuple #[.pointer none, .bool false]) w := by kernel_rfl
theorem asrt_bare (v : Value) (w : World) : (Instr.typeAssert (.iface 120 v) 93 61 true).run Tryz.prog w = .ok (.tuple #[.pointer none, .bool false]) w := by kernel_rfl
theorem rowv_cell {w : World} {base : Nat} {e : TypeId} {ad : Option Addr} {n cap : Nat} {xs : List Value} (h : w.ownsRow base e 1 (.slice ad n cap) n xs) (k : Nat) (v : Value) (hk : xs[k]? = some v) :
    ∃ g, ad = some ⟨g, 0, none⟩ ∧ base ≤ g ∧ g < w.heap.size ∧ w.cell? ⟨g, k, none⟩ = some v := by
  have hkl : k < xs.length := (List.getElem?_eq_some_iff.1 hk).1
  have hn : xs.length = n * 1 := h.1
  rcases h.2 with ⟨_, h0⟩ | ⟨g, c, cur, hgv, hg1, hgg, _⟩
  · omega
  · simp only [Value.slice.injEq] at hgv
    obtain ⟨rfl, _, rfl⟩ := hgv
    refine ⟨g, rfl, hg1, (Array.getElem?_eq_some_iff.1 hgg).1, ?_⟩
    rw [h.cellAt k (by omega), hk]
theorem owns_lower {w : World} {base base' : Nat} {e : TypeId} {v : Value} {n : Nat} {xs : List Value} (h : w.ownsRow base e 1 v n xs) (hb : base' ≤ base) : w.ownsRow base' e 1 v n xs :=
  ⟨h.1, h.2.elim (fun z => Or.inl z) (fun ⟨g, cap, cur, a, b, c⟩ => Or.inr ⟨g, cap, cur, a, Nat.le_trans hb b, c⟩)⟩
/-- A pair of the program's, as it lies. -/
def PairAt (w : World) (q : Nat) (t : It) : Prop :=
  q < w.heap.size ∧ w.cell? ⟨q, 2, none⟩ = some (.string (jn t.path)) ∧ w.cell? ⟨q, 3, none⟩ = some (.string (jn t.full)) ∧ ∃ pv lo hi, w.cell? ⟨q, 4, none⟩ = some pv ∧ (∀ k, lo ≤ k → k < hi → k < w.heap.size) ∧ PVal 7 lo hi w pv t.v
theorem PairAt.below {w w' : World} {q : Nat} {t : It} (h : PairAt w q t) (hb : Below w.heap.size w w') : PairAt w' q t := by
  obtain ⟨h1, h2, h3, pv, lo, hi, h4, h5, h6⟩ := h
  have hz := hb.size
  exact ⟨by omega, (hb.cell (p := ⟨q, 2, none⟩) h1).trans h2, (hb.cell (p := ⟨q, 3, none⟩) h1).trans h3, pv, lo, hi, (hb.cell (p := ⟨q, 4, none⟩) h1).trans h4, fun k k1 k2 => by have := h5 k k1 k2; omega, h6.frame (fun k k1 k2 => hb.block k (h5 k k1 k2))⟩
def PairsAt (w : World) (qs : List Nat) (l : List It) : Prop := qs.length = l.length ∧ ∀ (i q : Nat) (t : It), qs[i]? = some q → l[i]? = some t → PairAt w q t
theorem PairsAt.snoc {w : World} {qs : List Nat} {l : List It} {q : Nat} {t : It} (h : PairsAt w qs l) (hq : PairAt w q t) : PairsAt w (qs ++ [q]) (l ++ [t]) := by
  refine ⟨by simp [h.1], fun i q' t' h1 h2 => ?_⟩
  by_cases hi : i < qs.length
  · rw [List.getElem?_append_left hi] at h1
    rw [List.getElem?_append_left (by rw [← h.1]; exact hi)] at h2
    exact h.2 i q' t' h1 h2
  · rw [List.getElem?_append_right (by omega)] at h1
    rw [List.getElem?_append_right (by rw [← h.1]; omega)] at h2
    rw [h.1] at h1
    have e : i - l.length = 0 := by
      have := (List.getElem?_eq_some_iff.1 h1).1
      simp at this
      omega
    rw [e] at h1 h2
    simp only [List.getElem?_cons_zero, Option.some.injEq] at h1 h2
    subst h1 h2
    exact hq
theorem info_ppair : (Tryz.prog.info? 61).map (fun i => (i.zero, i.size, i.bytes)) = some (some (.pointer none), 1, 8) := by kernel_rfl
set_option maxRecDepth 100000 in
set_option maxHeartbeats 4000000 in
theorem pairs_any (q : Nat) (items : List It) (w0 w : World) (hsh : SheetOk w0 w q items) :
    Calls Tryz.prog 23 #[ptr q] w fun e w' => ∃ pv qs, e = .returned pv ∧ w'.ownsRow w.heap.size 61 1 pv qs.length (qs.map ptr) ∧ PairsAt w qs (pairsOf items) ∧ Below w.heap.size w w' := by
  obtain ⟨i0, hi, hz0, hz1, hz2⟩ := info_parts info_ppair
  obtain ⟨_, hlen, hq, b, nb, hv, pv, ev, es, hb0, hbq, hnb, hc, hpt⟩ := hsh
  have hel : es.length ≤ items.length ∧ items.length ≤ es.length := by have := hpt.len; omega
  have hbn := hpt.bnd
  obtain ⟨ade, cape, rfl⟩ := ownsS_form hpt.o6
  have O6 : Hid (w.ownsRow (b + 1) 93 1 (.slice ade es.length cape) es.length es) := hpt.o6
  have HE : Hid (∀ (i : Nat) (v : Value) (t : It), es[i]? = some v → items[i]? = some t → ∃ S, Away nb b hv pv (.slice ade es.length cape) S ∧ PEnt S w v t) := hpt.ents
  clear hpt
  have A1 := asrt_pair
  have A2 := asrt_hdr
  have A3 := asrt_bare
  go_enter Tryz.func23, Tryz.ntmps23
  go_wp2_with fail
  go_loopw [3, 13] (fun pv i wr => ∃ k : Nat, k ≤ es.length ∧ i = .int .i64 k ∧ ∃ qs : List Nat, Hid (wr.ownsRow w.heap.size 61 1 pv qs.length (qs.map ptr)) ∧ qs.length ≤ k ∧ Hid (PairsAt w qs (pairsOf (items.take k))) ∧ Hid (Below w.heap.size w wr)) (fun _ i _ => es.length - (intOf i).toNat)
  case atStart => exact ⟨0, Nat.zero_le _, rfl, [], World.ownsRow_nil _ _ _ _, Nat.le_refl _, ⟨rfl, fun i q t h => by simp at h⟩, Below.refl _ _⟩
  case round =>
    obtain ⟨k, hk, rfl, qs, hown, hql, hps, hbw⟩ := hrel
    obtain ⟨al, cl, el⟩ := owns_form hown.out
    subst el
    have hzr := hbw.out.size
    by_cases hkl : k < es.length
    · have hkl2 : k < items.length := by omega
      obtain ⟨g, hg, hg1, hg2, hgc⟩ := rowv_cell O6.out k es[k] (List.getElem?_eq_getElem hkl)
      subst hg
      have hgr := (hbw.out.cell (p := ⟨g, k, none⟩) hg2).trans hgc
      obtain ⟨S, hS, he⟩ := HE.out k es[k] items[k] (List.getElem?_eq_getElem hkl) (List.getElem?_eq_getElem hkl2)
      have hSz : ∀ j, S j → j < w.heap.size := fun j hj => by have := (hS j hj).2.1; omega
      have hnx : Hid _ := pairsOf_take items k hkl2
      clear hgc
      generalize es[k] = v at *
      generalize items[k] = t at *
      obtain ⟨q1, s1, c0, c1, hF, hcase⟩ := he
      clear c0 c1 hF
      rcases hcase with ⟨hk1, rfl, c2⟩ | ⟨hk1, rfl, c2, c3, pv1, lo, hi1, c4, hlo, hpv⟩ | ⟨hk1, rfl⟩
      · have Hps : Hid (PairsAt w qs (pairsOf (items.take (k + 1)))) := by
          unfold Hid
          rw [hnx.out, if_neg (by omega), List.append_nil]
          exact hps.out
        clear hk1 c2 hnx
        go_wp2_with fail
        go_roundw
        case rel => exact ⟨k + 1, by omega, by go_num, qs, hown, by omega, Hps, hbw⟩
        case measure => simp [intOf]; omega
      · have Hps : Hid (PairsAt w (qs ++ [q1]) (pairsOf (items.take (k + 1)))) := by
          unfold Hid
          rw [hnx.out, if_pos hk1]
          exact hps.out.snoc ⟨hSz _ s1, c2, c3, pv1, lo, hi1, c4, fun j j1 j2 => hSz _ (hlo j j1 j2).1, hpv⟩
        clear hk1 c2 c3 c4 hpv hlo hnx
        go_wp2_with (at_builtin; refine wpList_append_own_at _ rfl (.tmp 23) (.tmp 25) 59 rfl w.heap.size 61 i0 (.pointer none) 1 8 Tryz.underlying59 hi hz0 hz1 hz2 rfl (by decide) _ _ _ rfl (hown.out.alloc _) ⟨wr.heap.size, 0, none⟩ 1 1 [ptr q1] rfl rfl (cell_one_new _ _ _) (by intro u hu; simp at hu; subst hu; rfl) (by unfold maxLen; omega) (by omega) (by simp; omega) ?_; intro v1 w6 hown6 hgrow6 hnil6 hat6; refine Hid.out ?_)
        have hb6 : Hid (Below w.heap.size w w6) := (hbw.out.alloc hzr _).grown hgrow6 (by simp; omega) (fun k hk => (hown.out.lt k hk).1)
        have hown7 : Hid (w6.ownsRow w.heap.size 61 1 v1 (qs ++ [q1]).length ((qs ++ [q1]).map ptr)) := by
          unfold Hid
          simpa using hown6
        clear hown6 hgrow6 hnil6 hat6
        unfold Hid
        go_wp2_with fail
        go_roundw
        case rel => exact ⟨k + 1, by omega, by go_num, qs ++ [q1], hown7, by simp; omega, Hps, hb6⟩
        case measure => simp [intOf]; omega
      · have Hps : Hid (PairsAt w qs (pairsOf (items.take (k + 1)))) := by
          unfold Hid
          rw [hnx.out, if_neg (by omega), List.append_nil]
          exact hps.out
        clear hk1 hnx
        go_wp2_with fail
        go_roundw
        case rel => exact ⟨k + 1, by omega, by go_num, qs, hown, by omega, Hps, hbw⟩
        case measure => simp [intOf]; omega
    · have Hps : Hid (PairsAt w qs (pairsOf items)) := by
        have := hps.out
        rw [List.take_of_length_le (by omega)] at this
        exact this
      clear hps
      go_wp2_with fail
      go_ret
      exact ⟨_, qs, rfl, hown.out, Hps.out, hbw.out⟩
end Go.Proofs.YtdebjhdafnpfkabGreatDoor
