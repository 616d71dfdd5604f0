import Derived.Test.YtdebjhdafnpfkaaGreatDoorWorld
import Derived.Test.YtdebjhdafnpfkaaGreatDoorPure2
import Derived.Maps.AppendAt
namespace Go.Proofs.YtdebjhdafnpfkaaGreatDoor
open Go.ChangeShapes Go.WideShapes Go.ChangeAt Go.RowKit
set_option linter.unusedVariables false

theorem RD.of_block {w w' : World} {b : Nat} {s : ByteArray} {x : St} {it : Value} (h : RD w b s x it) (hb : w'.heap[b]? = w.heap[b]?) (hz : w.heap.size ≤ w'.heap.size) : RD w' b s x it :=
  ⟨(World.cell?_of_block (w := w) hb).trans h.S, (World.cell?_of_block (w := w) hb).trans h.A, (World.cell?_of_block (w := w) hb).trans h.E, (World.cell?_of_block (w := w) hb).trans h.P,
   (World.cell?_of_block (w := w) hb).trans h.I, fun o => (World.frozen?_of_block (w := w) hb).trans (h.F o), Nat.lt_of_lt_of_le h.lt hz⟩
theorem RD.alloc {w : World} {b : Nat} {s : ByteArray} {x : St} {it : Value} (h : RD w b s x it) (o : Obj) : RD (w.alloc o) b s x it :=
  h.of_block (Below.heap_alloc _ _ _ h.lt) (by simp)
theorem RD.set_other {w : World} {b : Nat} {s : ByteArray} {x : St} {it : Value} (h : RD w b s x it) (p o : Nat) (v : Value) (hp : p ≠ b) : RD (w.setCell ⟨p, o, none⟩ v) b s x it :=
  h.of_block (Below.heap_setCell _ _ _ _ (by simpa using fun e => hp e.symm)) (by simp [World.setCell])
theorem RD.grown {w w' : World} {b : Nat} {s : ByteArray} {x : St} {it : Value} {row : Option Nat} (h : RD w b s x it) (hg : w.grownBy w' row) (hr : some b ≠ row) : RD w' b s x it :=
  h.of_block (hg.block b h.lt hr) hg.size

/-- What was there is as it was, but for b; what is written is new. -/
theorem Kb.of_new {b : Nat} {u v w : World} (h : Kb b u v) (hb : b < u.heap.size) (ho : w.os = v.os) (ht : w.tape = v.tape) (hp : w.output = v.output) (hz : v.heap.size ≤ w.heap.size)
    (hk : ∀ k, k < u.heap.size → w.heap[k]? = v.heap[k]?) : Kb b u w :=
  ⟨ho.trans h.os, ht.trans h.tape, hp.trans h.output, Nat.le_trans h.size hz, fun k hk' hb' => (hk k hk').trans (h.block k hk' hb'), fun o => (World.frozen?_of_block (w := v) (hk b hb)).trans (h.froz o)⟩
theorem Kb.grown {b : Nat} {u v w : World} {row : Option Nat} (h : Kb b u v) (hb : b < u.heap.size) (hg : v.grownBy w row) (hr : ∀ k, row = some k → u.heap.size ≤ k) : Kb b u w :=
  h.of_new hb hg.os hg.tape hg.output hg.size (fun k hk => hg.block k (Nat.lt_of_lt_of_le hk h.size) (fun e => by have := hr k e.symm; omega))
theorem Kb.set_new {b : Nat} {u v : World} (h : Kb b u v) (hb : b < u.heap.size) (p o : Nat) (x : Value) (hp : u.heap.size ≤ p) : Kb b u (v.setCell ⟨p, o, none⟩ x) :=
  h.of_new hb rfl rfl rfl (by simp [World.setCell]) (fun k hk => Below.heap_setCell _ _ _ _ (by simp only; omega))
/-- A call that keeps all but b, met behind others. -/
theorem Kb.below {b : Nat} {u v w : World} (h : Kb b u v) (k : Kb b v w) : Kb b u w := h.trans k

/-- A row of memory, made in a stretch of blocks. -/
def RowIn (w : World) (lo hi : Nat) (e : TypeId) (v : Value) (xs : List Value) : Prop := w.ownsRow lo e 1 v xs.length xs ∧ ∀ k, v.ownBlock = some k → k < hi

theorem RowIn.frame {w w' : World} {lo hi : Nat} {e : TypeId} {v : Value} {xs : List Value} (h : RowIn w lo hi e v xs) (hb : ∀ k, lo ≤ k → k < hi → w'.heap[k]? = w.heap[k]?) : RowIn w' lo hi e v xs := by
  refine ⟨⟨h.1.1, ?_⟩, h.2⟩
  rcases h.1.2 with hn | ⟨g, cap, cur, rfl, hg, hgg, rest⟩
  · exact .inl hn
  · exact .inr ⟨g, cap, cur, rfl, hg, (hb g hg (h.2 g rfl)).trans hgg, rest⟩
theorem RowIn.wide {w : World} {lo hi lo' hi' : Nat} {e : TypeId} {v : Value} {xs : List Value} (h : RowIn w lo hi e v xs) (h1 : lo' ≤ lo) (h2 : hi ≤ hi') : RowIn w lo' hi' e v xs :=
  ⟨⟨h.1.1, h.1.2.elim (fun z => Or.inl z) (fun ⟨g, cap, cur, a, b, c⟩ => Or.inr ⟨g, cap, cur, a, Nat.le_trans h1 b, c⟩)⟩, fun k hk => Nat.lt_of_lt_of_le (h.2 k hk) h2⟩
theorem RowIn.nil (w : World) (lo hi : Nat) (e : TypeId) : RowIn w lo hi e (.slice none 0 0) [] := ⟨World.ownsRow_nil _ _ _ _, fun k hk => by simp [Value.ownBlock] at hk⟩

theorem owns_frame {w w' : World} {base : Nat} {e : TypeId} {v : Value} {n : Nat} {xs : List Value} (h : w.ownsRow base e 1 v n xs) (hb : ∀ k, base ≤ k → k < w.heap.size → w'.heap[k]? = w.heap[k]?) : w'.ownsRow base e 1 v n xs := by
  refine ⟨h.1, ?_⟩
  rcases h.2 with hn | ⟨g, cap, cur, rfl, hg, hgg, rest⟩
  · exact .inl hn
  · exact .inr ⟨g, cap, cur, rfl, hg, (hb g hg (Array.getElem?_eq_some_iff.1 hgg).1).trans hgg, rest⟩
theorem owns_kb {b : Nat} {w w' : World} {base : Nat} {e : TypeId} {v : Value} {n : Nat} {xs : List Value} (h : w.ownsRow base e 1 v n xs) (hk : Kb b w w') (hb : b < base) : w'.ownsRow base e 1 v n xs :=
  owns_frame h (fun k h1 h2 => hk.block k h2 (by omega))
theorem owns_ne {b : Nat} {w : World} {base : Nat} {e : TypeId} {v : Value} {n : Nat} {xs : List Value} (h : w.ownsRow base e 1 v n xs) (hb : b < base) : some b ≠ v.ownBlock := fun h' => by
  have := (h.lt b h'.symm).1
  omega
theorem owns_rowIn {w : World} {base : Nat} {e : TypeId} {v : Value} {n : Nat} {xs : List Value} (h : w.ownsRow base e 1 v n xs) : RowIn w base w.heap.size e v xs :=
  ⟨by rw [show xs.length = n by have := h.1; omega]; exact h, fun k hk => (h.lt k hk).2⟩

theorem owns_form {w : World} {base : Nat} {e : TypeId} {v : Value} {n : Nat} {xs : List Value} (h : w.ownsRow base e 1 v n xs) : ∃ ad cap, v = .slice ad n cap := by
  rcases h.2 with ⟨rfl, rfl⟩ | ⟨g, cap, cur, rfl, _⟩
  · exact ⟨_, _, rfl⟩
  · exact ⟨_, _, rfl⟩

abbrev ptr (q : Nat) : Value := .pointer (some ⟨q, 0, none⟩)

/-- A value, as it lies in a stretch of blocks. -/
def RVal : Nat → Nat → Nat → World → Nat → V → Prop
  | 0, _, _, _, _, _ => False
  | d + 1, lo, hi, w, p, v => lo ≤ p ∧ p < hi ∧ w.cell? ⟨p, 0, none⟩ = some (.int .u8 v.k) ∧ w.cell? ⟨p, 1, none⟩ = some (.int .i64 v.n) ∧ w.cell? ⟨p, 2, none⟩ = some (.string v.s) ∧
    ∃ lv nv, w.cell? ⟨p, 3, none⟩ = some lv ∧ w.cell? ⟨p, 4, none⟩ = some nv ∧ RowIn w lo hi 9 nv (v.m.map .string) ∧
    ∃ ps : List Nat, RowIn w lo hi 70 lv (ps.map ptr) ∧ ps.length = v.l.length ∧ ∀ (i q : Nat) (u : V), ps[i]? = some q → v.l[i]? = some u → RVal d lo hi w q u

theorem RVal.frame : ∀ {d lo hi : Nat} {w w' : World} {p : Nat} {v : V}, RVal d lo hi w p v → (∀ k, lo ≤ k → k < hi → w'.heap[k]? = w.heap[k]?) → RVal d lo hi w' p v
  | 0, _, _, _, _, _, _, h, _ => h.elim
  | d + 1, lo, hi, w, w', p, v, ⟨h1, h2, c0, c1, c2, lv, nv, c3, c4, rn, ps, rl, hl, hv⟩, hb => by
    have hp := hb p h1 h2
    exact ⟨h1, h2, (World.cell?_of_block (w := w) hp).trans c0, (World.cell?_of_block (w := w) hp).trans c1, (World.cell?_of_block (w := w) hp).trans c2, lv, nv,
      (World.cell?_of_block (w := w) hp).trans c3, (World.cell?_of_block (w := w) hp).trans c4, rn.frame hb, ps, rl.frame hb, hl, fun i q u hq hu => (hv i q u hq hu).frame hb⟩
theorem RVal.wide : ∀ {d lo hi lo' hi' : Nat} {w : World} {p : Nat} {v : V}, RVal d lo hi w p v → lo' ≤ lo → hi ≤ hi' → RVal d lo' hi' w p v
  | 0, _, _, _, _, _, _, _, h, _, _ => h.elim
  | d + 1, lo, hi, lo', hi', w, p, v, ⟨h1, h2, c0, c1, c2, lv, nv, c3, c4, rn, ps, rl, hl, hv⟩, a, b =>
    ⟨Nat.le_trans a h1, Nat.lt_of_lt_of_le h2 b, c0, c1, c2, lv, nv, c3, c4, rn.wide a b, ps, rl.wide a b, hl, fun i q u hq hu => (hv i q u hq hu).wide a b⟩
theorem RVal.up : ∀ {d lo hi : Nat} {w : World} {p : Nat} {v : V}, RVal d lo hi w p v → RVal (d + 1) lo hi w p v
  | 0, _, _, _, _, _, h => h.elim
  | d + 1, lo, hi, w, p, v, ⟨h1, h2, c0, c1, c2, lv, nv, c3, c4, rn, ps, rl, hl, hv⟩ =>
    ⟨h1, h2, c0, c1, c2, lv, nv, c3, c4, rn, ps, rl, hl, fun i q u hq hu => (hv i q u hq hu).up⟩
/-- A value that is no list and no group. -/
theorem RVal.leaf {d lo hi : Nat} {w : World} {p : Nat} {k : Nat} {n : Int} {s : ByteArray} (h1 : lo ≤ p) (h2 : p < hi) (c0 : w.cell? ⟨p, 0, none⟩ = some (.int .u8 k)) (c1 : w.cell? ⟨p, 1, none⟩ = some (.int .i64 n))
    (c2 : w.cell? ⟨p, 2, none⟩ = some (.string s)) (c3 : w.cell? ⟨p, 3, none⟩ = some (.slice none 0 0)) (c4 : w.cell? ⟨p, 4, none⟩ = some (.slice none 0 0)) : RVal (d + 1) lo hi w p ⟨k, n, s, [], []⟩ :=
  ⟨h1, h2, c0, c1, c2, _, _, c3, c4, RowIn.nil _ _ _ _, [], RowIn.nil _ _ _ _, rfl, fun i q u hq hu => by simp at hq⟩
end Go.Proofs.YtdebjhdafnpfkaaGreatDoor
