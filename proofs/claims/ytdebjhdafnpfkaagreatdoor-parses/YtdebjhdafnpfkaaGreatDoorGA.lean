import Derived.Test.YtdebjhdafnpfkaaGreatDoorPStr
import Derived.Test.YtdebjhdafnpfkaaGreatDoorRefF
import Derived.Lib.Strings
import Derived.Lib.SplitLaws
import Derived.Test.YtdebjhdafnpfkaaGreatDoorPWorld
import Derived.Test.YtdebjhdafnpfkaaGreatDoorWorld2
import Derived.Lib.Builder
import Derived.Below
import Derived.Test.YtdebjhdafnpfkaaGreatDoorWorld3
import Derived.Test.YtdebjhdafnpfkaaGreatDoorPrC1
import Derived.Test.YtdebjhdafnpfkaaGreatDoorPrC2
import Derived.Test.YtdebjhdafnpfkaaGreatDoorPPure
import Derived.Test.YtdebjhdafnpfkaaGreatDoorPPure2
import Derived.Test.YtdebjhdafnpfkaaGreatDoorShelf
import Derived.Lib.ConvBytes
import Derived.Test.YtdebjhdafnpfkaaGreatDoorPrC5
import Derived.Test.YtdebjhdafnpfkaaGreatDoorPPure3
import Derived.Test.YtdebjhdafnpfkaaGreatDoorRefH
namespace Go.Proofs.YtdebjhdafnpfkaaGreatDoor
open Go.ChangeShapes Go.WideShapes Go.ChangeAt Go.RowKit
set_option linter.unusedVariables false
set_option linter.unusedSimpArgs false

theorem hasP_one (t : ByteArray) (c : UInt8) : Lib.hasPrefix t.data.toList [c] = decide (t.size ≠ 0 ∧ bt t 0 = c.toNat) := by
  unfold Lib.hasPrefix
  have hl : t.data.toList.length = t.size := Array.length_toList
  cases hd : t.data.toList with
  | nil =>
    rw [hd] at hl
    simp at hl
    simp [List.isPrefixOf, hl.symm]
  | cons b r =>
    rw [hd] at hl
    simp only [List.length_cons] at hl
    obtain ⟨b', hb1, hb2⟩ := bt_list t 0 (by omega)
    rw [hd] at hb1
    simp only [List.getElem?_cons_zero, Option.some.injEq] at hb1
    subst hb1
    rw [Bool.eq_iff_iff]
    simp only [List.isPrefixOf, Bool.and_true, beq_iff_eq, decide_eq_true_eq, ← hb2, UInt8.toNat_inj]
    constructor
    · rintro rfl; exact ⟨by omega, rfl⟩
    · rintro ⟨_, rfl⟩; rfl
def zeroS : ByteArray := ⟨#[48]⟩
theorem zero_beq (t : ByteArray) : (t.toList == [48]) = decide (t = zeroS) := by
  have h : zeroS.toList = [48] := ByteArray.toList_mk [48]
  rw [← h, toList_beq]
theorem zero_only (t : ByteArray) (h0 : bt t 0 = 48) (hs : t.size ≠ 0) : (t.toList == [48]) = rnumber t := by
  rw [zero_beq, rnumber_zero t h0 hs, Bool.eq_iff_iff, decide_eq_true_eq, decide_eq_true_eq]
  constructor
  · rintro rfl; rfl
  · intro h1
    apply ByteArray.ext_getElem
    · exact h1
    · intro i hi hi'
      have e : i = 0 := by omega
      subst e
      have := bt_in t 0 hi
      rw [h0] at this
      exact UInt8.toNat_inj.1 this
/-- A number's pieces. -/
def pieces (t : ByteArray) : List ByteArray := Lib.splitB ⟨#[95]⟩ 0 (Lib.countB t ⟨#[95]⟩) t
theorem pieces_len (t : ByteArray) : (pieces t).length = Lib.countB t ⟨#[95]⟩ + 1 := Lib.splitB_all ⟨#[95]⟩ (by decide) 0 _ t rfl
theorem pieces_ok (t : ByteArray) (h0 : bt t 0 ≠ 48) : (pieces t).all (fun p => okP p.data.toList) = rnumber t := by
  rw [rnumber_numB t h0, ← splitK_one _ _ (Nat.le_refl _), ← Lib.count_one]
  have := Lib.splitB_data ⟨#[95]⟩ 0 (Lib.countB t ⟨#[95]⟩) t
  unfold pieces
  have e : Lib.splitK [95] 0 (Lib.count t.data.toList [95]) t.data.toList = (Lib.splitB ⟨#[95]⟩ 0 (Lib.countB t ⟨#[95]⟩) t).map (·.data.toList) := this.symm
  rw [e, List.all_map]
  rfl
theorem splitB_size (sep : ByteArray) : ∀ (k : Nat) (s : ByteArray), ∀ p ∈ Lib.splitB sep 0 k s, p.size ≤ s.size
  | 0, s, p, h => by
    rw [Lib.splitB_zero] at h
    simp only [List.mem_singleton] at h
    subst h
    exact Nat.le_refl _
  | k + 1, s, p, h => by
    unfold Lib.splitB at h
    split at h
    · simp only [List.mem_singleton] at h
      subst h
      exact Nat.le_refl _
    · rcases List.mem_cons.1 h with rfl | h
      · rw [ByteArray.size_extract]; omega
      · have := splitB_size sep k _ p h
        rw [ByteArray.size_extract] at this
        omega
theorem count_le_size (t : ByteArray) : Lib.countB t ⟨#[95]⟩ ≤ t.size := Lib.countB_le ⟨#[95]⟩ (by decide) t.size t (Nat.le_refl _)
theorem okP_empty (p : ByteArray) (h : p.size = 0) : okP p.data.toList = false := by
  have hl : p.data.toList.length = p.size := Array.length_toList
  have : p.data.toList = [] := List.length_eq_zero_iff.1 (by omega)
  rw [this]
  rfl
theorem okP_some (p : ByteArray) (h : p.size ≠ 0) : okP p.data.toList = decide (Lib.trimS p.data.toList [48, 49, 50, 51, 52, 53, 54, 55, 56, 57] = []) := by
  have hl : p.data.toList.length = p.size := Array.length_toList
  have : p.data.toList ≠ [] := fun e => by rw [e] at hl; simp at hl; omega
  unfold okP
  rw [decide_eq_true (show p.data.toList ≠ [] from this), Bool.true_and, Bool.eq_iff_iff, decide_eq_true_eq, trim_digits]
theorem mk_empty (l : List UInt8) : (⟨l.toArray⟩ : ByteArray).toList.isEmpty = decide (l = []) := by
  rw [toList_empty, Bool.eq_iff_iff, decide_eq_true_eq, decide_eq_true_eq]
  show l.toArray.size = 0 ↔ _
  simp
end Go.Proofs.YtdebjhdafnpfkaaGreatDoor

namespace Go.Proofs.YtdebjhdafnpfkaaGreatDoor
open Go.ChangeShapes Go.WideShapes Go.ChangeAt Go.RowKit
set_option linter.unusedVariables false
set_option linter.unusedSimpArgs false

theorem Kc.of_new {b : Nat} {u v w : World} (h : Kc b u v) (hb : b < u.heap.size) (ho : w.os = v.os) (ht : w.tape = v.tape) (hp : w.output = v.output) (hz : v.heap.size ≤ w.heap.size)
    (hk : ∀ k, k < u.heap.size → w.heap[k]? = v.heap[k]?) : Kc b u w :=
  ⟨h.kb.of_new hb ho ht hp hz hk, fun o h1 h2 => (World.cell?_of_block (w := v) (hk b hb)).trans (h.off o h1 h2)⟩
theorem Kc.below {b B : Nat} {u v w : World} (h : Kc b u v) (hb : b < u.heap.size) (hB : u.heap.size ≤ B) (k : Below B v w) : Kc b u w :=
  h.of_new hb k.os k.tape k.output k.size (fun i hi => k.block i (Nat.lt_of_lt_of_le hi hB))
theorem Kc.grown {b : Nat} {u v w : World} {row : Option Nat} (h : Kc b u v) (hb : b < u.heap.size) (hg : v.grownBy w row) (hr : ∀ k, row = some k → u.heap.size ≤ k) : Kc b u w :=
  h.of_new hb hg.os hg.tape hg.output hg.size (fun k hk => hg.block k (Nat.lt_of_lt_of_le hk h.kb.size) (fun e => by have := hr k e.symm; omega))
theorem PC.below {w w' : World} {b B : Nat} {s : ByteArray} {a : Nat} (h : PC w b s a) (hb : b < B) (k : Below B w w') : PC w' b s a := h.of_block (k.block b hb) k.size
theorem PC.grown {w w' : World} {b : Nat} {s : ByteArray} {a : Nat} {row : Option Nat} (h : PC w b s a) (hg : w.grownBy w' row) (hr : some b ≠ row) : PC w' b s a :=
  h.of_block (hg.block b h.lt hr) hg.size

theorem builder_frame {T e : TypeId} {B q : Nat} {bs : List Value} {w w' : World} (h : Lib.IsBuilder T e B q bs w) (hb : ∀ k, B ≤ k → k < w.heap.size → w'.heap[k]? = w.heap[k]?) : Lib.IsBuilder T e B q bs w' := by
  have one : ∀ p, Lib.BuilderAt T e B q p bs w → Lib.BuilderAt T e B q p bs w' := by
    rintro p ⟨h1, v, h2, h3, h4⟩
    exact ⟨h1, v, (hb q h1 (Array.getElem?_eq_some_iff.1 h2).1).trans h2, owns_frame h3 hb, h4⟩
  rcases h with h | h
  · exact .inl (one _ h)
  · exact .inr (one _ h)
theorem builder_kc {T e : TypeId} {b B q : Nat} {bs : List Value} {w w' : World} (h : Lib.IsBuilder T e B q bs w) (hk : Kc b w w') (hb : b < B) : Lib.IsBuilder T e B q bs w' :=
  builder_frame h (fun k h1 h2 => hk.kb.block k h2 (by omega))

/-- Bytes as cells. -/
theorem put_toList (t : ByteArray) (c : Nat) : (put t c).data.toList = t.data.toList ++ [UInt8.ofNat c] := by
  show (t ++ (⟨#[UInt8.ofNat c]⟩ : ByteArray)).data.toList = _
  simp
theorem pput_size (t : ByteArray) (c : Nat) : (put t c).size = t.size + 1 := by
  unfold put
  rw [ByteArray.size_append]
  rfl
end Go.Proofs.YtdebjhdafnpfkaaGreatDoor

namespace Go.Proofs.YtdebjhdafnpfkaaGreatDoor
open Go.ChangeShapes Go.WideShapes Go.ChangeAt Go.RowKit
set_option linter.unusedVariables false
set_option linter.unusedSimpArgs false

theorem ownsS_frame {sz : Nat} {w w' : World} {base : Nat} {e : TypeId} {v : Value} {n : Nat} {xs : List Value} (h : w.ownsRow base e sz v n xs) (hb : ∀ k, base ≤ k → k < w.heap.size → v.ownBlock = some k → w'.heap[k]? = w.heap[k]?) : w'.ownsRow base e sz v n xs := by
  refine ⟨h.1, ?_⟩
  rcases h.2 with hn | ⟨g, cap, cur, rfl, hg, hgg, rest⟩
  · exact .inl hn
  · exact .inr ⟨g, cap, cur, rfl, hg, (hb g hg (Array.getElem?_eq_some_iff.1 hgg).1 rfl).trans hgg, rest⟩
theorem ownsS_form {sz : Nat} {w : World} {base : Nat} {e : TypeId} {v : Value} {n : Nat} {xs : List Value} (h : w.ownsRow base e sz v n xs) : ∃ ad cap, v = .slice ad n cap := by
  rcases h.2 with ⟨rfl, rfl⟩ | ⟨g, cap, cur, rfl, _⟩
  · exact ⟨_, _, rfl⟩
  · exact ⟨_, _, rfl⟩
theorem ownsS_ne {sz : Nat} {b : Nat} {w : World} {base : Nat} {e : TypeId} {v : Value} {n : Nat} {xs : List Value} (h : w.ownsRow base e sz v n xs) (hb : b < base) : some b ≠ v.ownBlock := fun h' => by
  have := (h.lt b h'.symm).1
  omega
theorem ownsS_kc {sz b : Nat} {w w' : World} {base : Nat} {e : TypeId} {v : Value} {n : Nat} {xs : List Value} (h : w.ownsRow base e sz v n xs) (hk : Kb b w w') (hb : b < base) : w'.ownsRow base e sz v n xs :=
  ownsS_frame h (fun k h1 h2 _ => hk.block k h2 (by omega))

/-- A row, in a stretch of blocks. -/
def RowS (sz : Nat) (w : World) (lo hi : Nat) (e : TypeId) (v : Value) (n : Nat) (xs : List Value) : Prop := w.ownsRow lo e sz v n xs ∧ ∀ k, v.ownBlock = some k → k < hi
theorem RowS.frame {sz : Nat} {w w' : World} {lo hi : Nat} {e : TypeId} {v : Value} {n : Nat} {xs : List Value} (h : RowS sz w lo hi e v n xs) (hb : ∀ k, lo ≤ k → k < hi → w'.heap[k]? = w.heap[k]?) : RowS sz w' lo hi e v n xs :=
  ⟨ownsS_frame h.1 (fun k h1 _ h3 => hb k h1 (h.2 k h3)), h.2⟩
theorem RowS.wide {sz : Nat} {w : World} {lo hi lo' hi' : Nat} {e : TypeId} {v : Value} {n : Nat} {xs : List Value} (h : RowS sz w lo hi e v n xs) (h1 : lo' ≤ lo) (h2 : hi ≤ hi') : RowS sz w lo' hi' e v n xs :=
  ⟨⟨h.1.1, h.1.2.elim (fun z => Or.inl z) (fun ⟨g, cap, cur, a, b, c⟩ => Or.inr ⟨g, cap, cur, a, Nat.le_trans h1 b, c⟩)⟩, fun k hk => Nat.lt_of_lt_of_le (h.2 k hk) h2⟩
theorem RowS.of {sz : Nat} {w : World} {base : Nat} {e : TypeId} {v : Value} {n : Nat} {xs : List Value} (h : w.ownsRow base e sz v n xs) : RowS sz w base w.heap.size e v n xs := ⟨h, fun k hk => (h.lt k hk).2⟩

/-- A group's members, cell by cell. -/
def mem2 : List ByteArray → List Value → List Value
  | m :: ms, v :: vs => .string m :: v :: mem2 ms vs
  | _, _ => []
theorem mem2_snoc (m : ByteArray) (v : Value) : ∀ (ms : List ByteArray) (vs : List Value), ms.length = vs.length → mem2 (ms ++ [m]) (vs ++ [v]) = mem2 ms vs ++ [.string m, v]
  | [], [], _ => rfl
  | a :: ms, b :: vs, h => by
    simp only [List.length_cons, Nat.add_right_cancel_iff] at h
    show .string a :: b :: mem2 (ms ++ [m]) (vs ++ [v]) = _
    rw [mem2_snoc m v ms vs h]
    rfl
  | [], _ :: _, h => by simp at h
  | _ :: _, [], h => by simp at h
theorem mem2_len : ∀ (ms : List ByteArray) (vs : List Value), ms.length = vs.length → (mem2 ms vs).length = vs.length * 2
  | [], [], _ => rfl
  | a :: ms, b :: vs, h => by
    simp only [List.length_cons, Nat.add_right_cancel_iff] at h
    show (mem2 ms vs).length + 1 + 1 = _
    rw [mem2_len ms vs h]
    simp only [List.length_cons]
    omega
  | [], _ :: _, h => by simp at h
  | _ :: _, [], h => by simp at h
theorem mem2_get : ∀ (ms : List ByteArray) (vs : List Value) (i : Nat) (m : ByteArray) (v : Value), ms[i]? = some m → vs[i]? = some v → (mem2 ms vs)[2 * i]? = some (.string m) ∧ (mem2 ms vs)[2 * i + 1]? = some v
  | a :: ms, b :: vs, 0, m, v, h1, h2 => by
    simp only [List.getElem?_cons_zero, Option.some.injEq] at h1 h2
    subst h1 h2
    exact ⟨rfl, rfl⟩
  | a :: ms, b :: vs, i + 1, m, v, h1, h2 => by
    simp only [List.getElem?_cons_succ] at h1 h2
    have := mem2_get ms vs i m v h1 h2
    exact this
  | [], _, i, m, v, h1, _ => by simp at h1
  | _ :: _, [], i, m, v, _, h2 => by simp at h2

/-- A value of the program's, as it lies in a stretch of blocks. -/
def PVal : Nat → Nat → Nat → World → Value → V → Prop
  | 0, _, _, _, _, _ => False
  | d + 1, lo, hi, w, v, x =>
    (x.k = 115 ∧ v = .iface 219 (.string x.s)) ∨ (x.k = 110 ∧ v = .iface 240 (.int .i64 x.n)) ∨
    (x.k = 98 ∧ (x.n = 1 ∧ v = .iface 239 (.bool true) ∨ x.n = 0 ∧ v = .iface 239 (.bool false))) ∨
    (x.k = 108 ∧ ∃ lv vs, v = .iface 208 lv ∧ RowS 1 w lo hi 99 lv x.l.length vs ∧ ∀ (i : Nat) (u : Value) (y : V), vs[i]? = some u → x.l[i]? = some y → PVal d lo hi w u y) ∨
    (x.k = 103 ∧ ∃ gv vs, v = .iface 223 gv ∧ vs.length = x.l.length ∧ x.m.length = x.l.length ∧ RowS 2 w lo hi 238 gv x.l.length (mem2 x.m vs) ∧ ∀ (i : Nat) (u : Value) (y : V), vs[i]? = some u → x.l[i]? = some y → PVal d lo hi w u y)

theorem PVal.frame : ∀ {d lo hi : Nat} {w w' : World} {v : Value} {x : V}, PVal d lo hi w v x → (∀ k, lo ≤ k → k < hi → w'.heap[k]? = w.heap[k]?) → PVal d lo hi w' v x
  | 0, _, _, _, _, _, _, h, _ => h.elim
  | d + 1, lo, hi, w, w', v, x, h, hb => by
    rcases h with h | h | h | ⟨h1, lv, vs, h2, h3, h4⟩ | ⟨h1, gv, vs, h2, h3, h4, h5, h6⟩
    · exact .inl h
    · exact .inr (.inl h)
    · exact .inr (.inr (.inl h))
    · exact .inr (.inr (.inr (.inl ⟨h1, lv, vs, h2, h3.frame hb, fun i u y hu hy => (h4 i u y hu hy).frame hb⟩)))
    · exact .inr (.inr (.inr (.inr ⟨h1, gv, vs, h2, h3, h4, h5.frame hb, fun i u y hu hy => (h6 i u y hu hy).frame hb⟩)))
theorem PVal.wide : ∀ {d lo hi lo' hi' : Nat} {w : World} {v : Value} {x : V}, PVal d lo hi w v x → lo' ≤ lo → hi ≤ hi' → PVal d lo' hi' w v x
  | 0, _, _, _, _, _, _, _, h, _, _ => h.elim
  | d + 1, lo, hi, lo', hi', w, v, x, h, a, b => by
    rcases h with h | h | h | ⟨h1, lv, vs, h2, h3, h4⟩ | ⟨h1, gv, vs, h2, h3, h4, h5, h6⟩
    · exact .inl h
    · exact .inr (.inl h)
    · exact .inr (.inr (.inl h))
    · exact .inr (.inr (.inr (.inl ⟨h1, lv, vs, h2, h3.wide a b, fun i u y hu hy => (h4 i u y hu hy).wide a b⟩)))
    · exact .inr (.inr (.inr (.inr ⟨h1, gv, vs, h2, h3, h4, h5.wide a b, fun i u y hu hy => (h6 i u y hu hy).wide a b⟩)))
theorem PVal.iface {d lo hi : Nat} {w : World} {v : Value} {x : V} (h : PVal d lo hi w v x) : ∃ t u, v = .iface t u := by
  cases d with
  | zero => exact h.elim
  | succ d =>
    rcases h with ⟨_, h⟩ | ⟨_, h⟩ | ⟨_, ⟨_, h⟩ | ⟨_, h⟩⟩ | ⟨h1, lv, vs, h, h3, h4⟩ | ⟨h1, gv, vs, h, h3, h4, h5, h6⟩
    · exact ⟨_, _, h⟩
    · exact ⟨_, _, h⟩
    · exact ⟨_, _, h⟩
    · exact ⟨_, _, h⟩
    · exact ⟨_, _, h⟩
    · exact ⟨_, _, h⟩

/-- The values of a list or a group that grows, each in a stretch of its own, off the row. -/
def PCh (d : Nat) (w : World) (q : Nat) (lv : Value) (vs : List Value) (l : List V) : Prop :=
  vs.length = l.length ∧ ∀ (i : Nat) (v : Value) (u : V), vs[i]? = some v → l[i]? = some u →
    ∃ lo hi, q ≤ lo ∧ hi ≤ w.heap.size ∧ (∀ k, lv.ownBlock = some k → ¬ (lo ≤ k ∧ k < hi)) ∧ PVal d lo hi w v u
theorem PCh.nil (d : Nat) (w : World) (q : Nat) (lv : Value) : PCh d w q lv [] [] := ⟨rfl, fun i p u h => by simp at h⟩
theorem PCh.frame {d : Nat} {w w' : World} {q : Nat} {lv lv' : Value} {vs : List Value} {l : List V} (h : PCh d w q lv vs l) (hz : w.heap.size ≤ w'.heap.size)
    (hb : ∀ k, q ≤ k → k < w.heap.size → lv.ownBlock ≠ some k → w'.heap[k]? = w.heap[k]?)
    (hl : lv'.ownBlock = lv.ownBlock ∨ ∀ k, lv'.ownBlock = some k → w.heap.size ≤ k) : PCh d w' q lv' vs l := by
  refine ⟨h.1, fun i p u hp hu => ?_⟩
  obtain ⟨lo, hi, h1, h2, h3, h4⟩ := h.2 i p u hp hu
  refine ⟨lo, hi, h1, Nat.le_trans h2 hz, fun k hk => ?_, h4.frame (fun k k1 k2 => hb k (by omega) (by omega) (fun e => h3 k e ⟨k1, k2⟩))⟩
  rcases hl with e | e
  · exact h3 k (e ▸ hk)
  · have := e k hk
    omega
theorem PCh.kb {b d : Nat} {w w' : World} {q : Nat} {lv : Value} {vs : List Value} {l : List V} (h : PCh d w q lv vs l) (hk : Kb b w w') (hb : b < q) : PCh d w' q lv vs l :=
  h.frame hk.size (fun k k1 k2 _ => hk.block k k2 (by omega)) (.inl rfl)
theorem PCh.alloc {d : Nat} {w : World} {q : Nat} {lv : Value} {vs : List Value} {l : List V} (h : PCh d w q lv vs l) (o : Obj) : PCh d (w.alloc o) q lv vs l :=
  h.frame (by simp) (fun k _ k2 _ => Below.heap_alloc _ _ _ k2) (.inl rfl)
theorem PCh.grow {d : Nat} {w w' : World} {q : Nat} {lv v : Value} {vs : List Value} {l : List V} (h : PCh d w q lv vs l) (hg : w.grownBy w' lv.ownBlock) (ha : v.ownBlock = lv.ownBlock ∨ v.ownBlock = some w.heap.size) : PCh d w' q v vs l :=
  h.frame hg.size (fun k _ k2 k3 => hg.block k k2 (fun e => k3 e.symm)) (ha.elim (fun e => .inl e) (fun e => .inr (fun k hk => by rw [e] at hk; cases hk; exact Nat.le_refl _)))
theorem PCh.snoc {d : Nat} {w : World} {q : Nat} {lv : Value} {vs : List Value} {l : List V} {v : Value} {u : V} (h : PCh d w q lv vs l) {lo hi : Nat} (h1 : q ≤ lo) (h2 : hi ≤ w.heap.size)
    (h3 : ∀ k, lv.ownBlock = some k → k < lo) (hr : PVal d lo hi w v u) : PCh d w q lv (vs ++ [v]) (l ++ [u]) := by
  refine ⟨by simp [h.1], fun i p' u' hp hu => ?_⟩
  by_cases hi' : i < vs.length
  · rw [List.getElem?_append_left hi'] at hp
    rw [List.getElem?_append_left (by rw [← h.1]; exact hi')] at hu
    exact h.2 i p' u' hp hu
  · rw [List.getElem?_append_right (by omega)] at hp
    rw [List.getElem?_append_right (by rw [← h.1]; omega)] at hu
    rw [h.1] at hp
    have e : i - l.length = 0 := by
      have := (List.getElem?_eq_some_iff.1 hp).1
      simp at this
      omega
    rw [e] at hp hu
    simp only [List.getElem?_cons_zero, Option.some.injEq] at hp hu
    subst hp hu
    exact ⟨lo, hi, h1, h2, fun k hk hc => by have := h3 k hk; omega, hr⟩
theorem PCh.list {d q hi : Nat} {w : World} {lv : Value} {vs : List Value} {l : List V} (hc : PCh d w q lv vs l) (h3 : hi = w.heap.size) (ho : w.ownsRow q 99 1 lv vs.length vs) :
    PVal (d + 1) q hi w (.iface 208 lv) ⟨108, 0, ⟨#[]⟩, l, []⟩ := by
  subst h3
  rw [hc.1] at ho
  refine .inr (.inr (.inr (.inl ⟨rfl, lv, vs, rfl, RowS.of ho, fun i u y hu hy => ?_⟩)))
  obtain ⟨lo', hi', a1, a2, _, a4⟩ := hc.2 i u y hu hy
  exact a4.wide a1 a2
theorem PCh.group {d q hi : Nat} {w : World} {lv : Value} {vs : List Value} {l : List V} {m : List ByteArray} (hc : PCh d w q lv vs l) (h3 : hi = w.heap.size) (hm : m.length = vs.length) (ho : w.ownsRow q 238 2 lv vs.length (mem2 m vs)) :
    PVal (d + 1) q hi w (.iface 223 lv) ⟨103, 0, ⟨#[]⟩, l, m⟩ := by
  subst h3
  rw [hc.1] at ho
  refine .inr (.inr (.inr (.inr ⟨rfl, lv, vs, rfl, hc.1, hm.trans hc.1, RowS.of ho, fun i u y hu hy => ?_⟩)))
  obtain ⟨lo', hi', a1, a2, _, a4⟩ := hc.2 i u y hu hy
  exact a4.wide a1 a2
/-- No memory behind it. -/
def PLeaf (v : Value) (x : V) : Prop := ∀ d lo hi w, PVal (d + 1) lo hi w v x
theorem leaf_text (t : ByteArray) : PLeaf (.iface 219 (.string t)) ⟨115, 0, t, [], []⟩ := fun d lo hi w => .inl ⟨rfl, rfl⟩
theorem leaf_num (n : Int) : PLeaf (.iface 240 (.int .i64 n)) ⟨110, n, ⟨#[]⟩, [], []⟩ := fun d lo hi w => .inr (.inl ⟨rfl, rfl⟩)
theorem leaf_true : PLeaf (.iface 239 (.bool true)) ⟨98, 1, ⟨#[]⟩, [], []⟩ := fun d lo hi w => .inr (.inr (.inl ⟨rfl, .inl ⟨rfl, rfl⟩⟩))
theorem leaf_false : PLeaf (.iface 239 (.bool false)) ⟨98, 0, ⟨#[]⟩, [], []⟩ := fun d lo hi w => .inr (.inr (.inl ⟨rfl, .inr ⟨rfl, rfl⟩⟩))
end Go.Proofs.YtdebjhdafnpfkaaGreatDoor

namespace Go.Proofs.YtdebjhdafnpfkaaGreatDoor
open Go.ChangeShapes Go.WideShapes Go.ChangeAt Go.RowKit
set_option linter.unusedVariables false
set_option linter.unusedSimpArgs false

theorem pblanks_any (b : Nat) (s : ByteArray) (a : Nat) (w : World) (hs : s.size ≤ 4000) (ha : a ≤ s.size) (h : PC w b s a) :
    Calls Tryz.prog 81 #[.pointer (some ⟨b, 0, none⟩)] w fun e w' => e = .returned (.tuple #[]) ∧ PC w' b s (scan (blankB false) s a) ∧ Kc b w w' := by
  have h' : Hid (PC w b s a) := h
  clear h
  go_enter Tryz.func81, Tryz.ntmps81
  go_wp2_with fail
  refine (take_isBlank b s a _ hs ha h'.out).mono ?_
  rintro e w1 ⟨rfl, h2, hk2⟩
  go_wp2_with fail
  go_returns
  exact ⟨rfl, h2, hk2⟩

theorem pass_any (b : Nat) (s : ByteArray) (x : St) (c : Nat) (w : World) (hs : s.size ≤ 4000) (he : x.e = 0) (ha : x.a ≤ s.size) (hc : c ≠ 0) (h : PC w b s x.a) :
    Calls Tryz.prog 86 #[.pointer (some ⟨b, 0, none⟩), .int .u8 c] w fun e w' => (e = .returned (.tuple #[]) ∧ POk s b w w' (rmust s x c)) ∨ PBad s b w e w' (rmust s x c) := by
  have h' : Hid (PC w b s x.a) := h
  clear h
  by_cases hh : bt s x.a = c
  · have hl : x.a < s.size := by
      rcases Nat.lt_or_ge x.a s.size with h1 | h1
      · exact h1
      · rw [bt_end s _ h1] at hh; omega
    have t : ((bt s x.a : Int) != (c : Int)) = false := by simp; omega
    have H : Hid (rmust s x c = ⟨x.a + 1, x.e, x.p⟩) := rmust_hit s x c he hc hh
    clear hh
    go_enter Tryz.func86, Tryz.ntmps86
    go_wp2_with fail
    refine (peek_any b s x.a _ hs ha h'.out).mono ?_
    rintro e w1 ⟨rfl, n, rfl⟩
    go_wp2_with fail
    refine (step_any b s x.a _ hs hl (h'.out.drewN n)).mono ?_
    rintro e w1 ⟨rfl, h2, hk2⟩
    go_wp2_with fail
    go_returns
    refine .inl ⟨rfl, ?_⟩
    rw [H.out]
    exact ⟨he, h2, ((Kc.refl _ _).drewN n).trans hk2⟩
  · have t : ((bt s x.a : Int) != (c : Int)) = true := by simp; omega
    have H : Hid (rmust s x c = ⟨x.a, 3, x.a⟩) := rmust_miss s x c he hc hh
    clear hh
    go_enter Tryz.func86, Tryz.ntmps86
    go_wp2_with fail
    refine (peek_any b s x.a _ hs ha h'.out).mono ?_
    rintro e w1 ⟨rfl, n, rfl⟩
    go_wp2_with fail
    refine (fail_any b s x.a 3 _ (h'.out.drewN n)).mono ?_
    rintro e w1 ⟨q, hq⟩
    have he' := hq.e
    subst he'
    refine ⟨rfl, .inr ?_⟩
    rw [H.out]
    exact ⟨by simp, q, hq.trans ((Kb.refl _ _).drewN n)⟩

theorem readName_any (b : Nat) (s : ByteArray) (x : St) (w : World) (hs : s.size ≤ 4000) (he : x.e = 0) (ha : x.a ≤ s.size) (h : PC w b s x.a) :
    Calls Tryz.prog 132 #[.pointer (some ⟨b, 0, none⟩)] w fun e w' => (e = .returned (.string (rname s x).2) ∧ POk s b w w' (rname s x).1) ∨ PBad s b w e w' (rname s x).1 := by
  have h' : Hid (PC w b s x.a) := h
  have H : Hid _ := rname_eq s x he ha
  have hL : Hid (lineAt s (scan letterB s x.a) = lineAt s x.a) := lineAt_scan _ _ (by decide) _
  have h1 := scan_ge letterB s x.a
  have h2 := scan_le letterB s x.a ha
  have hz : Hid ((s.extract x.a (scan letterB s x.a)).size = scan letterB s x.a - x.a) := size_ext _ _ _ h2
  clear h
  go_enter Tryz.func132, Tryz.ntmps132
  go_wp2_with fail
  refine (take_isOfName b s x.a _ hs ha h'.out).mono ?_
  rintro e w1 ⟨rfl, h3, hk3⟩
  have h3' : Hid (PC w1 b s (scan letterB s x.a)) := h3
  clear h3
  have hx : Hid (s.extract x.a (scan letterB s x.a) = (rname s x).2) := by unfold Hid; rw [H.out]
  generalize s.extract x.a (scan letterB s x.a) = t at *
  by_cases hy : scan letterB s x.a = x.a
  · have t0 : t.toList.isEmpty = true := by rw [toList_empty]; exact decide_eq_true (by have := hz.out; omega)
    go_wp2_with fail
    refine (fail_any b s (scan letterB s x.a) 3 _ h3'.out).mono ?_
    rintro e w2 ⟨q, hq⟩
    have he' := hq.e
    subst he'
    refine ⟨rfl, .inr ?_⟩
    rw [H.out, if_pos hy]
    rw [hL.out] at hq
    exact ⟨by simp, q, hq.trans hk3.kb⟩
  · have t0 : t.toList.isEmpty = false := by rw [toList_empty]; exact decide_eq_false (by have := hz.out; omega)
    by_cases h20 : 20 < scan letterB s x.a - x.a
    · have t1 : decide ((t.size : Int) > 20) = true := by have := hz.out; simp; omega
      go_wp2_with fail
      refine (fail_any b s (scan letterB s x.a) 4 _ h3'.out).mono ?_
      rintro e w2 ⟨q, hq⟩
      have he' := hq.e
      subst he'
      refine ⟨rfl, .inr ?_⟩
      rw [H.out, if_neg hy, if_pos h20]
      rw [hL.out] at hq
      exact ⟨by simp, q, hq.trans hk3.kb⟩
    · have t1 : decide ((t.size : Int) > 20) = false := by have := hz.out; simp; omega
      go_wp2_with fail
      go_ret
      refine .inl ?_
      rw [H.out, if_neg hy, if_neg h20]
      exact ⟨rfl, he, h3'.out, hk3⟩
end Go.Proofs.YtdebjhdafnpfkaaGreatDoor

namespace Go.Proofs.YtdebjhdafnpfkaaGreatDoor
open Go.ChangeShapes Go.WideShapes Go.ChangeAt Go.RowKit
set_option linter.unusedVariables false
set_option linter.unusedSimpArgs false

/-- A name that went well. -/
theorem rname_ok {s : ByteArray} {x : St} (he : x.e = 0) (ha : x.a ≤ s.size) (h : (rname s x).1.e = 0) :
    (rname s x).1 = ⟨scan letterB s x.a, x.e, x.p⟩ ∧ x.a < scan letterB s x.a ∧ scan letterB s x.a ≤ s.size ∧ (rname s x).2 = s.extract x.a (scan letterB s x.a) ∧ lineAt s (scan letterB s x.a) = lineAt s x.a := by
  have h1 := scan_ge letterB s x.a
  have h2 := scan_le letterB s x.a ha
  rw [rname_eq s x he ha] at h ⊢
  by_cases hy : scan letterB s x.a = x.a
  · rw [if_pos hy] at h; cases h
  · rw [if_neg hy] at h ⊢
    by_cases h20 : 20 < scan letterB s x.a - x.a
    · rw [if_pos h20] at h; cases h
    · rw [if_neg h20]
      exact ⟨rfl, by omega, h2, rfl, lineAt_scan _ _ (by decide) _⟩

/-- Behind a name that went well. -/
def pathRest (s : ByteArray) (n : Nat) (y : St) (l : List ByteArray) : St × List ByteArray :=
  if ris s y 46 = true then rpathLoop s n ⟨y.a + 1, y.e, y.p⟩ l else (y, l)
theorem rpathLoop_succ (s : ByteArray) (n : Nat) (x : St) (l : List ByteArray) : rpathLoop s (n + 1) x l = pathRest s n (rname s x).1 (l ++ [(rname s x).2]) := rfl
theorem rpath_eq (s : ByteArray) (x : St) : rpath s x = (if 4 < (rpathLoop s (s.size + 1 - x.a) x []).2.length then rno (rpathLoop s (s.size + 1 - x.a) x []).1 4 x.a else (rpathLoop s (s.size + 1 - x.a) x []).1, (rpathLoop s (s.size + 1 - x.a) x []).2) := rfl
/-- Where a name is wrong. -/
theorem rpath_bad {s : ByteArray} {x y : St} {n : Nat} {l : List ByteArray} (h : rpathLoop s (s.size + 1 - x.a) x [] = pathRest s n y l) (hy : y.e ≠ 0) : (rpath s x).1 = y := by
  rw [rpath_eq, h]
  unfold pathRest
  rw [ris_off s y 46 hy]
  simp only [Bool.false_eq_true, if_false]
  split
  · exact rno_off _ _ _ hy
  · rfl

set_option maxHeartbeats 2000000 in
theorem readPath_any (b : Nat) (s : ByteArray) (x : St) (w : World) (hs : s.size ≤ 4000) (he : x.e = 0) (ha : x.a ≤ s.size) (h : PC w b s x.a) :
    Calls Tryz.prog 120 #[.pointer (some ⟨b, 0, none⟩)] w fun e w' => (e = .returned (.string (jn (rpath s x).2)) ∧ POk s b w w' (rpath s x).1 ∧ lineAt s (rpath s x).1.a = lineAt s x.a ∧ (jn (rpath s x).2).size ≤ s.size) ∨ PBad s b w e w' (rpath s x).1 := by
  have h' : Hid (PC w b s x.a) := h
  have hA := h.A
  clear h
  obtain ⟨n, hn⟩ : ∃ n, s.size + 1 - x.a = n + 1 := ⟨s.size - x.a, by omega⟩
  have H0 : Hid (rpathLoop s (s.size + 1 - x.a) x [] = pathRest s n (rname s x).1 [(rname s x).2]) := by
    unfold Hid
    rw [hn, rpathLoop_succ]
    rfl
  go_enter Tryz.func120, Tryz.ntmps120
  go_wp2_with fail
  refine (readName_any b s x _ hs he ha h'.out).mono ?_
  rintro e w1 (⟨rfl, hok⟩ | hbad)
  · obtain ⟨r1, r2, r3, r4, r5⟩ := rname_ok he ha hok.e
    have hok' : Hid (PC w1 b s (rname s x).1.a ∧ Kc b w w1) := ⟨hok.pc, hok.kc⟩
    have hey := hok.e
    clear hok
    have R : Hid ((rname s x).1 = ⟨scan letterB s x.a, x.e, x.p⟩ ∧ (rname s x).2 = s.extract x.a (scan letterB s x.a) ∧ lineAt s (scan letterB s x.a) = lineAt s x.a) := ⟨r1, r4, r5⟩
    clear r1 r4 r5
    go_wp2_with fail
    go_loopw [4] (fun u4 wr => ∃ (n : Nat) (y : St) (l : List ByteArray), Hid (rpathLoop s (s.size + 1 - x.a) x [] = pathRest s n y l) ∧ Hid (y.e = 0) ∧ Hid (PC wr b s y.a) ∧ Kc b w wr ∧
        y.a ≤ s.size ∧ x.a ≤ y.a ∧ s.size + 1 ≤ n + y.a ∧ l.length ≤ y.a ∧ Hid (l ≠ []) ∧ Hid (s.extract x.a y.a = jn l) ∧ Hid (lineAt s y.a = lineAt s x.a) ∧ u4 = .int .i64 l.length) (fun _ wr => s.size - atOf wr b)
    case atStart =>
      refine ⟨n, (rname s x).1, [(rname s x).2], H0, hey, hok'.out.1, hok'.out.2, ?_, ?_, ?_, ?_, by simp [Hid], ?_, ?_, rfl⟩
      · rw [R.out.1]; exact r3
      · rw [R.out.1]; show x.a ≤ scan letterB s x.a; omega
      · rw [R.out.1]; show s.size + 1 ≤ n + scan letterB s x.a; omega
      · rw [R.out.1]; show 1 ≤ scan letterB s x.a; omega
      · unfold Hid; rw [R.out.1, R.out.2.1]; rfl
      · unfold Hid; rw [R.out.1]; exact R.out.2.2
    case round =>
      clear h' hA hok' H0 R r2 r3 hey hn
      obtain ⟨n, y, l, hr, hy0, h1, hk, hy1, hy2, hn, hll, hl0, hj, hli, rfl⟩ := hrel
      obtain ⟨hT, hA, hL, hF, hlt⟩ := h1.out
      by_cases hd : bt s y.a = 46
      · have t : ((bt s y.a : Int) == 46) = true := by simp; omega
        have D : Hid (bt s y.a = 46) := hd
        have hlt2 : y.a < s.size := by
          rcases Nat.lt_or_ge y.a s.size with h1 | h1
          · exact h1
          · rw [bt_end s _ h1] at hd; omega
        clear hd
        go_wp2_with fail
        refine (peek_any b s y.a _ hs hy1 h1.out).mono ?_
        rintro e w2 ⟨rfl, m, rfl⟩
        go_wp2_with fail
        refine (step_any b s y.a _ hs hlt2 (h1.out.drewN m)).mono ?_
        rintro e w2 ⟨rfl, h2, hk2⟩
        have h2' : Hid (PC w2 b s (y.a + 1)) := h2
        clear h2
        go_wp2_with fail
        refine (readName_any b s ⟨y.a + 1, y.e, y.p⟩ _ hs hy0.out (by show y.a + 1 ≤ _; omega) h2'.out).mono ?_
        obtain ⟨n', hn'⟩ : ∃ n', n = n' + 1 := ⟨n - 1, by omega⟩
        have Hn : Hid (rpathLoop s (s.size + 1 - x.a) x [] = pathRest s n' (rname s ⟨y.a + 1, y.e, y.p⟩).1 (l ++ [(rname s ⟨y.a + 1, y.e, y.p⟩).2])) := by
          unfold Hid
          rw [hr.out, pathRest, ris_pk s y 46 hy0.out (by decide), D.out, hn']
          rfl
        have hL2 : Hid (lineAt s (y.a + 1) = lineAt s x.a) := by
          show (if bt s y.a = 10 then _ else _) = _
          rw [if_neg (by rw [D.out]; decide)]
          exact hli.out
        rintro e w3 (⟨rfl, hok⟩ | hbad)
        · obtain ⟨r1, r2, r3, r4, r5⟩ := rname_ok (x := ⟨y.a + 1, y.e, y.p⟩) hy0.out (by show y.a + 1 ≤ _; omega) hok.e
          have R : Hid ((rname s ⟨y.a + 1, y.e, y.p⟩).1 = ⟨scan letterB s (y.a + 1), y.e, y.p⟩ ∧ (rname s ⟨y.a + 1, y.e, y.p⟩).2 = s.extract (y.a + 1) (scan letterB s (y.a + 1)) ∧ lineAt s (scan letterB s (y.a + 1)) = lineAt s (y.a + 1)) := ⟨r1, r4, r5⟩
          clear r1 r4 r5
          have hok' : Hid (PC w3 b s (rname s ⟨y.a + 1, y.e, y.p⟩).1.a ∧ Kc b w2 w3) := ⟨hok.pc, hok.kc⟩
          have hey : Hid ((rname s ⟨y.a + 1, y.e, y.p⟩).1.e = 0) := hok.e
          clear hok
          simp only at r2 r3
          go_wp2_with fail
          go_roundw
          case rel =>
            refine ⟨n', (rname s ⟨y.a + 1, y.e, y.p⟩).1, l ++ [(rname s ⟨y.a + 1, y.e, y.p⟩).2], Hn, hey, hok'.out.1, ((hk.drewN m).trans hk2).trans hok'.out.2, ?_, ?_, ?_, ?_, by simp [Hid], ?_, ?_, by simp⟩
            · rw [R.out.1]; exact r3
            · rw [R.out.1]; show x.a ≤ scan letterB s (y.a + 1); omega
            · rw [R.out.1]; show s.size + 1 ≤ n' + scan letterB s (y.a + 1); omega
            · rw [R.out.1]; show (l ++ [(rname s ⟨y.a + 1, y.e, y.p⟩).2]).length ≤ scan letterB s (y.a + 1); rw [List.length_append, List.length_singleton]; omega
            · unfold Hid
              rw [R.out.1, R.out.2.1, jn_snoc _ _ hl0.out, ← hj.out]
              show s.extract x.a (scan letterB s (y.a + 1)) = _
              rw [ext_glue s x.a (y.a + 1) _ (by omega) (by omega), ext_glue s x.a y.a (y.a + 1) (by omega) (by omega), ext_one s y.a D.out]
            · unfold Hid; rw [R.out.1]; exact R.out.2.2.trans hL2.out
          case measure =>
            rw [hok'.out.1.atOf, h1.out.atOf, R.out.1]
            show s.size - scan letterB s (y.a + 1) < _
            omega
        · obtain ⟨hb, q, hq⟩ := hbad
          have he' := hq.e
          subst he'
          refine ⟨rfl, .inr ?_⟩
          rw [rpath_bad Hn.out hb]
          exact ⟨hb, q, (hq.trans hk2.kb).trans (hk.kb.drewN m)⟩
      · have t : ((bt s y.a : Int) == 46) = false := by simp; omega
        have D : Hid (rpath s x = (if 4 < l.length then rno y 4 x.a else y, l)) := by
          unfold Hid
          rw [rpath_eq, hr.out, pathRest, ris_pk s y 46 hy0.out (by decide)]
          simp only [decide_eq_true_eq, if_neg hd]
        clear hd
        by_cases h4 : 4 < l.length
        · have t1 : decide ((l.length : Int) > 4) = true := by simp; omega
          go_wp2_with fail
          refine (peek_any b s y.a _ hs hy1 h1.out).mono ?_
          rintro e w2 ⟨rfl, m, rfl⟩
          go_wp2_with fail
          refine (fail_any b s y.a 4 _ (h1.out.drewN m)).mono ?_
          rintro e w2 ⟨q, hq⟩
          have he' := hq.e
          subst he'
          refine ⟨rfl, .inr ?_⟩
          rw [D.out, if_pos h4, rno_on _ _ _ hy0.out]
          rw [hli.out] at hq
          exact ⟨by simp, q, hq.trans (hk.kb.drewN m)⟩
        · have t1 : decide ((l.length : Int) > 4) = false := by simp; omega
          go_wp2_with fail
          refine (peek_any b s y.a _ hs hy1 h1.out).mono ?_
          rintro e w2 ⟨rfl, m, rfl⟩
          go_wp2_with fail
          go_quiet (fail)
          go_wp2
          go_ret
          refine .inl ?_
          rw [D.out, if_neg h4]
          exact ⟨ret_str' hj.out, ⟨hy0.out, (h1.out.drewN m).drewN _, (hk.drewN m).drewN _⟩, hli.out, by rw [← hj.out, ByteArray.size_extract]; omega⟩
  · obtain ⟨hb, q, hq⟩ := hbad
    have he' := hq.e
    subst he'
    refine ⟨rfl, .inr ?_⟩
    rw [rpath_bad H0.out hb]
    exact ⟨hb, q, hq⟩
end Go.Proofs.YtdebjhdafnpfkaaGreatDoor

namespace Go.Proofs.YtdebjhdafnpfkaaGreatDoor
open Go.ChangeShapes Go.WideShapes Go.ChangeAt Go.RowKit
set_option linter.unusedVariables false
set_option linter.unusedSimpArgs false

theorem readEscaped_any (b : Nat) (s : ByteArray) (x : St) (w : World) (hs : s.size ≤ 4000) (he : x.e = 0) (ha : x.a ≤ s.size) (h : PC w b s x.a) :
    Calls Tryz.prog 156 #[.pointer (some ⟨b, 0, none⟩)] w fun e w' =>
      (e = .returned (.int .u8 (resc s x)) ∧ POk s b w w' ⟨(rescSt s x).a + 1, (rescSt s x).e, (rescSt s x).p⟩) ∨ PBad s b w e w' ⟨(rescSt s x).a + 1, (rescSt s x).e, (rescSt s x).p⟩ := by
  have h' : Hid (PC w b s x.a) := h
  clear h
  rw [resc_eq s x he]
  cases hb : escB (bt s x.a)
  · have H : Hid (rescSt s x = ⟨x.a, 3, x.a⟩) := rescSt_bad s x he hb
    have hn : ¬ (bt s x.a = 92 ∨ bt s x.a = 34 ∨ bt s x.a = 110 ∨ bt s x.a = 116) := by simpa [escB] using hb
    have t1 : ((bt s x.a : Int) == 92) = false := by simp; omega
    have t2 : ((bt s x.a : Int) == 34) = false := by simp; omega
    have t3 : ((bt s x.a : Int) == 110) = false := by simp; omega
    have t4 : ((bt s x.a : Int) == 116) = false := by simp; omega
    clear hn hb
    go_enter Tryz.func156, Tryz.ntmps156
    go_wp2_with fail
    refine (peek_any b s x.a _ hs ha h'.out).mono ?_
    rintro e w1 ⟨rfl, n, rfl⟩
    go_wp2_with fail
    refine (fail_any b s x.a 3 _ (h'.out.drewN n)).mono ?_
    rintro e w1 ⟨q, hq⟩
    have he' := hq.e
    subst he'
    refine ⟨rfl, .inr ?_⟩
    rw [H.out]
    exact ⟨by simp, q, hq.trans ((Kb.refl _ _).drewN n)⟩
  · have H : Hid (rescSt s x = x) := rescSt_ok s x he hb
    have hn : bt s x.a = 92 ∨ bt s x.a = 34 ∨ bt s x.a = 110 ∨ bt s x.a = 116 := by simpa [escB] using hb
    have hl : x.a < s.size := by
      rcases Nat.lt_or_ge x.a s.size with h1 | h1
      · exact h1
      · rw [bt_end s _ h1] at hn; omega
    have E : Hid (bt s x.a = 92 ∨ bt s x.a = 34 ∨ bt s x.a = 110 ∨ bt s x.a = 116) := hn
    clear hb
    by_cases c1 : bt s x.a = 34
    · have t2 : ((bt s x.a : Int) == 34) = true := by simp; omega
      have R : Hid (escN (bt s x.a) = bt s x.a) := by unfold Hid; rw [c1]; rfl
      clear hn c1
      go_enter Tryz.func156, Tryz.ntmps156
      go_wp2_with fail
      refine (peek_any b s x.a _ hs ha h'.out).mono ?_
      rintro e w1 ⟨rfl, n, rfl⟩
      go_wp2_with fail
      refine (step_any b s x.a _ hs hl (h'.out.drewN n)).mono ?_
      rintro e w1 ⟨rfl, h2, hk2⟩
      go_wp2_with fail
      go_ret
      refine .inl ⟨ret_u8 (by rw [R.out]), ?_⟩
      rw [H.out]
      exact ⟨he, h2, ((Kc.refl _ _).drewN n).trans hk2⟩
    · have t2 : ((bt s x.a : Int) == 34) = false := by simp; omega
      by_cases c2 : bt s x.a = 92
      · have t1 : ((bt s x.a : Int) == 92) = true := by simp; omega
        have R : Hid (escN (bt s x.a) = bt s x.a) := by unfold Hid; rw [c2]; rfl
        clear hn c1 c2
        go_enter Tryz.func156, Tryz.ntmps156
        go_wp2_with fail
        refine (peek_any b s x.a _ hs ha h'.out).mono ?_
        rintro e w1 ⟨rfl, n, rfl⟩
        go_wp2_with fail
        refine (step_any b s x.a _ hs hl (h'.out.drewN n)).mono ?_
        rintro e w1 ⟨rfl, h2, hk2⟩
        go_wp2_with fail
        go_ret
        refine .inl ⟨ret_u8 (by rw [R.out]), ?_⟩
        rw [H.out]
        exact ⟨he, h2, ((Kc.refl _ _).drewN n).trans hk2⟩
      · have t1 : ((bt s x.a : Int) == 92) = false := by simp; omega
        by_cases c3 : bt s x.a = 110
        · have t3 : ((bt s x.a : Int) == 110) = true := by simp; omega
          have R : Hid (escN (bt s x.a) = 10) := by unfold Hid; rw [c3]; rfl
          clear hn c1 c2 c3
          go_enter Tryz.func156, Tryz.ntmps156
          go_wp2_with fail
          refine (peek_any b s x.a _ hs ha h'.out).mono ?_
          rintro e w1 ⟨rfl, n, rfl⟩
          go_wp2_with fail
          refine (step_any b s x.a _ hs hl (h'.out.drewN n)).mono ?_
          rintro e w1 ⟨rfl, h2, hk2⟩
          go_wp2_with fail
          go_ret
          refine .inl ⟨ret_u8 (by rw [R.out]; rfl), ?_⟩
          rw [H.out]
          exact ⟨he, h2, ((Kc.refl _ _).drewN n).trans hk2⟩
        · have t3 : ((bt s x.a : Int) == 110) = false := by simp; omega
          have c4 : bt s x.a = 116 := by omega
          have t4 : ((bt s x.a : Int) == 116) = true := by simp; omega
          have R : Hid (escN (bt s x.a) = 9) := by unfold Hid; rw [c4]; rfl
          clear hn c1 c2 c3 c4
          go_enter Tryz.func156, Tryz.ntmps156
          go_wp2_with fail
          refine (peek_any b s x.a _ hs ha h'.out).mono ?_
          rintro e w1 ⟨rfl, n, rfl⟩
          go_wp2_with fail
          refine (step_any b s x.a _ hs hl (h'.out.drewN n)).mono ?_
          rintro e w1 ⟨rfl, h2, hk2⟩
          go_wp2_with fail
          go_ret
          refine .inl ⟨ret_u8 (by rw [R.out]; rfl), ?_⟩
          rw [H.out]
          exact ⟨he, h2, ((Kc.refl _ _).drewN n).trans hk2⟩

theorem readLetter_any (b : Nat) (s : ByteArray) (x : St) (w : World) (hs : s.size ≤ 4000) (he : x.e = 0) (ha : x.a ≤ s.size) (h : PC w b s x.a) :
    Calls Tryz.prog 147 #[.pointer (some ⟨b, 0, none⟩)] w fun e w' =>
      (e = .returned (.int .u8 (rletter s x).2) ∧ POk s b w w' (rletter s x).1) ∨ PBad s b w e w' (rletter s x).1 := by
  have h' : Hid (PC w b s x.a) := h
  clear h
  by_cases h1 : s.size ≤ x.a ∨ bt s x.a < 32
  · have hb : bt s x.a < 32 := by
      rcases h1 with h1 | h1
      · rw [bt_end s _ h1]; omega
      · exact h1
    have t : decide ((bt s x.a : Int) < 32) = true := by simp; omega
    have H : Hid (rletter s x = (⟨x.a, 3, x.a⟩, 0)) := by unfold Hid rletter; rw [if_pos h1, rno_on _ _ _ he]
    clear h1
    go_enter Tryz.func147, Tryz.ntmps147
    go_wp2_with fail
    refine (peek_any b s x.a _ hs ha h'.out).mono ?_
    rintro e w1 ⟨rfl, n, rfl⟩
    go_wp2_with fail
    refine (fail_any b s x.a 3 _ (h'.out.drewN n)).mono ?_
    rintro e w1 ⟨q, hq⟩
    have he' := hq.e
    subst he'
    refine ⟨rfl, .inr ?_⟩
    rw [H.out]
    exact ⟨by simp, q, hq.trans ((Kb.refl _ _).drewN n)⟩
  · have hl : x.a < s.size := by omega
    have hb : ¬ bt s x.a < 32 := by omega
    have t : decide ((bt s x.a : Int) < 32) = false := by simp; omega
    by_cases h92 : bt s x.a = 92
    · have t1 : ((bt s x.a : Int) == 92) = true := by simp; omega
      have H : Hid (rletter s x = (⟨(rescSt s ⟨x.a + 1, x.e, x.p⟩).a + 1, (rescSt s ⟨x.a + 1, x.e, x.p⟩).e, (rescSt s ⟨x.a + 1, x.e, x.p⟩).p⟩, resc s ⟨x.a + 1, x.e, x.p⟩)) := by unfold Hid rletter; rw [if_neg h1, if_pos h92]
      clear h1 hb h92
      go_enter Tryz.func147, Tryz.ntmps147
      go_wp2_with fail
      refine (peek_any b s x.a _ hs ha h'.out).mono ?_
      rintro e w1 ⟨rfl, n, rfl⟩
      go_wp2_with fail
      refine (step_any b s x.a _ hs hl (h'.out.drewN n)).mono ?_
      rintro e w1 ⟨rfl, h2, hk2⟩
      have h2' : Hid (PC w1 b s (x.a + 1)) := h2
      clear h2
      go_wp2_with fail
      refine (readEscaped_any b s ⟨x.a + 1, x.e, x.p⟩ _ hs he (by show x.a + 1 ≤ _; omega) h2'.out).mono ?_
      rintro e w3 (⟨rfl, hok⟩ | ⟨hb, q, hq⟩)
      · have hok' : Hid _ := hok
        clear hok
        go_wp2_with fail
        go_ret
        refine .inl ?_
        rw [H.out]
        exact ⟨ret_u8 (by rw [he]), hok'.out.e, hok'.out.pc, (((Kc.refl _ _).drewN n).trans hk2).trans hok'.out.kc⟩
      · have he' := hq.e
        subst he'
        refine ⟨rfl, .inr ?_⟩
        rw [H.out]
        exact ⟨hb, q, (hq.trans hk2.kb).trans ((Kb.refl _ _).drewN n)⟩
    · have t1 : ((bt s x.a : Int) == 92) = false := by simp; omega
      have H : Hid (rletter s x = (⟨x.a + 1, x.e, x.p⟩, bt s x.a)) := by unfold Hid rletter; rw [if_neg h1, if_neg h92]
      clear h1 hb h92
      go_enter Tryz.func147, Tryz.ntmps147
      go_wp2_with fail
      refine (peek_any b s x.a _ hs ha h'.out).mono ?_
      rintro e w1 ⟨rfl, n, rfl⟩
      go_wp2_with fail
      refine (step_any b s x.a _ hs hl (h'.out.drewN n)).mono ?_
      rintro e w1 ⟨rfl, h2, hk2⟩
      go_wp2_with fail
      go_ret
      refine .inl ?_
      rw [H.out]
      exact ⟨rfl, he, h2, ((Kc.refl _ _).drewN n).trans hk2⟩

theorem checkNest_any (b : Nat) (s : ByteArray) (a nest : Nat) (w : World) (hn : nest ≤ 6) (h : PC w b s a) :
    Calls Tryz.prog 135 #[.pointer (some ⟨b, 0, none⟩), .int .i64 nest] w fun e w' =>
      (nest < 6 ∧ e = .returned (.tuple #[]) ∧ w' = w) ∨ (6 ≤ nest ∧ ∃ q, Pan b w e w' 5 (lineAt s a) q) := by
  by_cases h6 : nest < 6
  · have t : decide ((nest : Int) ≥ 6) = false := by simp; omega
    go_enter Tryz.func135, Tryz.ntmps135
    go_wp2_with fail
    go_returns
    exact .inl ⟨h6, rfl, rfl⟩
  · have t : decide ((nest : Int) ≥ 6) = true := by simp; omega
    have h' : Hid (PC w b s a) := h
    clear h
    go_enter Tryz.func135, Tryz.ntmps135
    go_wp2_with fail
    refine (fail_any b s a 5 _ h'.out).mono ?_
    rintro e w1 ⟨q, hq⟩
    have he' := hq.e
    subst he'
    exact ⟨rfl, .inr ⟨by omega, q, hq⟩⟩
end Go.Proofs.YtdebjhdafnpfkaaGreatDoor

namespace Go.Proofs.YtdebjhdafnpfkaaGreatDoor
open Go.ChangeShapes Go.WideShapes Go.ChangeAt Go.RowKit
set_option linter.unusedVariables false
set_option linter.unusedSimpArgs false

theorem bt_lt' (s : ByteArray) (a c : Nat) (h : bt s a = c) (hc : c ≠ 0) : a < s.size := by
  rcases Nat.lt_or_ge a s.size with h1 | h1
  · exact h1
  · rw [bt_end s _ h1] at h; omega
theorem rletter_ok {s : ByteArray} {y : St} (he : y.e = 0) (h : (rletter s y).1.e = 0) : y.a < (rletter s y).1.a ∧ (rletter s y).1.a ≤ s.size ∧ (rletter s y).2 < 256 := by
  have hb := bt_lt s y.a
  unfold rletter at *
  by_cases h1 : s.size ≤ y.a ∨ bt s y.a < 32
  · rw [if_pos h1, rno_on _ _ _ he] at h; cases h
  · rw [if_neg h1] at h ⊢
    by_cases h2 : bt s y.a = 92
    · rw [if_pos h2] at h ⊢
      cases hE : escB (bt s (y.a + 1))
      · rw [rescSt_bad s ⟨y.a + 1, y.e, y.p⟩ he hE] at h
        cases h
      · rw [rescSt_ok s ⟨y.a + 1, y.e, y.p⟩ he hE, resc_eq s ⟨y.a + 1, y.e, y.p⟩ he]
        have hn : bt s (y.a + 1) = 92 ∨ bt s (y.a + 1) = 34 ∨ bt s (y.a + 1) = 110 ∨ bt s (y.a + 1) = 116 := by simpa [escB] using hE
        have hl : y.a + 1 < s.size := bt_lt' s _ _ rfl (by omega)
        refine ⟨by show y.a < y.a + 1 + 1; omega, by show y.a + 1 + 1 ≤ _; omega, ?_⟩
        show escN (bt s (y.a + 1)) < 256
        unfold escN
        split
        · omega
        · split
          · omega
          · split
            · omega
            · split
              · omega
              · omega
    · rw [if_neg h2]
      exact ⟨by show y.a < y.a + 1; omega, by show y.a + 1 ≤ _; omega, hb⟩
theorem byteCells_put (t : ByteArray) (c : Nat) (hc : c < 256) : Lib.byteCells (put t c).data.toList = Lib.byteCells t.data.toList ++ [.int .u8 c] := by
  rw [put_toList]
  simp only [Lib.byteCells, List.map_append, List.map_cons, List.map_nil]
  congr 2
  simp
  omega
theorem byteCells_len (t : ByteArray) : (Lib.byteCells t.data.toList).length = t.size := by
  simp only [Lib.byteCells, List.length_map]
  exact Array.length_toList
theorem rtext_eq (s : ByteArray) (x : St) : rtext s x = ((rtextLoop s (s.size + 3 - x.a) (rmust s x 34) ⟨#[]⟩).1, ⟨115, 0, (rtextLoop s (s.size + 3 - x.a) (rmust s x 34) ⟨#[]⟩).2, [], []⟩) := rfl

set_option maxHeartbeats 2000000 in
theorem readText_any (b : Nat) (s : ByteArray) (x : St) (w : World) (hs : s.size ≤ 4000) (he : x.e = 0) (hq : bt s x.a = 34) (h : PC w b s x.a) :
    Calls Tryz.prog 134 #[.pointer (some ⟨b, 0, none⟩)] w fun e w' => (e = .returned (.string (rtext s x).2.s) ∧ POk s b w w' (rtext s x).1) ∨ PBad s b w e w' (rtext s x).1 := by
  have ha := bt_lt' s x.a 34 hq (by decide)
  have h' : Hid (PC w b s x.a) := h
  have hltw := h.lt
  clear h
  have M : Hid (rmust s x 34 = ⟨x.a + 1, x.e, x.p⟩) := rmust_hit s x 34 he (by decide) hq
  have R0 : Hid (rtext s x = ((rtextLoop s (s.size + 3 - x.a) ⟨x.a + 1, x.e, x.p⟩ ⟨#[]⟩).1, ⟨115, 0, (rtextLoop s (s.size + 3 - x.a) ⟨x.a + 1, x.e, x.p⟩ ⟨#[]⟩).2, [], []⟩)) := by
    unfold Hid
    rw [rtext_eq, M.out]
  have HE : Hid (x.e = 0) := he
  clear he hq
  go_enter Tryz.func134, Tryz.ntmps134
  go_wp2_with fail
  refine (pass_any b s x 34 _ hs HE.out (by omega) (by decide) h'.out).mono ?_
  rintro e w1 (⟨rfl, hok⟩ | ⟨hb, _⟩)
  · rw [M.out] at hok
    have hok' : Hid (POk s b w w1 ⟨x.a + 1, x.e, x.p⟩) := hok
    have hlt1 := hok.pc.lt
    have hz1 := hok.kc.kb.size
    clear hok
    go_wp2_with fail
    go_loopw [] (fun wr => ∃ (n : Nat) (y : St) (t : ByteArray), Hid (rtextLoop s (s.size + 3 - x.a) ⟨x.a + 1, x.e, x.p⟩ ⟨#[]⟩ = rtextLoop s (n + 1) y t) ∧ Hid (y.e = 0) ∧ Hid (PC wr b s y.a) ∧ Hid (Kc b w wr) ∧
        y.a ≤ s.size ∧ s.size + 3 ≤ n + y.a ∧ t.size ≤ y.a ∧ Hid (Lib.IsBuilder 140 5 w1.heap.size w1.heap.size (Lib.byteCells t.data.toList) wr) ∧ w1.heap.size < wr.heap.size) (fun wr => s.size - atOf wr b)
    case atStart =>
      refine ⟨s.size + 2 - x.a, ⟨x.a + 1, x.e, x.p⟩, ⟨#[]⟩, ?_, HE.out, hok'.out.pc.alloc _, hok'.out.kc.alloc hlt1 _, ?_, ?_, Nat.zero_le _, Lib.fresh_isBuilder _ _ _, by simp⟩
      · unfold Hid; rw [show s.size + 2 - x.a + 1 = s.size + 3 - x.a by omega]
      · show x.a + 1 ≤ _; omega
      · show s.size + 3 ≤ s.size + 2 - x.a + (x.a + 1); omega
    case round =>
      clear h' hok' M
      obtain ⟨n, y, t, hr, hy0, h1, hk, hy1, hn, htt, hB, hz⟩ := hrel
      by_cases hd : bt s y.a = 34
      · have t0 : ((bt s y.a : Int) != 34) = false := by simp; omega
        have D : Hid (rtext s x = (⟨y.a + 1, y.e, y.p⟩, ⟨115, 0, t, [], []⟩)) := by
          unfold Hid
          rw [R0.out, hr.out, textLoop_end _ _ _ _ hy0.out hd]
        have M2 : Hid (rmust s y 34 = ⟨y.a + 1, y.e, y.p⟩) := rmust_hit s y 34 hy0.out (by decide) hd
        clear hd
        go_wp2_with fail
        refine (peek_any b s y.a _ hs hy1 h1.out).mono ?_
        rintro e w2 ⟨rfl, m, rfl⟩
        go_wp2_with fail
        refine (pass_any b s y 34 _ hs hy0.out hy1 (by decide) (h1.out.drewN m)).mono ?_
        rintro e w3 (⟨rfl, hok⟩ | ⟨hb, _⟩)
        · rw [M2.out] at hok
          have hok' : Hid (POk s b (wr.drewN m) w3 ⟨y.a + 1, y.e, y.p⟩) := hok
          have hz3 := hok.kc.kb.size
          have hB3 : Hid (Lib.IsBuilder 140 5 w1.heap.size w1.heap.size (Lib.byteCells t.data.toList) w3) := builder_kc (b := b) hB.out (((Kc.refl b wr).drewN m).trans hok.kc) hlt1
          clear hok
          go_wp2_with fail
          refine (Tryz.Builder_String_any w1.heap.size w1.heap.size t.data.toList _ hB3.out (by rw [World.heap_drewN] at hz3; omega)).mono ?_
          rintro e w4 ⟨rfl, hbel⟩
          have hbel' : Hid (Below w1.heap.size w3 w4) := hbel
          clear hbel
          go_wp2_with fail
          go_ret
          refine .inl ?_
          rw [D.out]
          refine ⟨ret_str' rfl, hy0.out, hok'.out.pc.below hlt1 hbel'.out, ?_⟩
          exact ((hk.out.drewN m).trans hok'.out.kc).below hltw hz1 hbel'.out
        · rw [M2.out] at hb
          exact absurd hy0.out hb
      · have t0 : ((bt s y.a : Int) != 34) = true := by simp; omega
        have D : Hid (bt s y.a ≠ 34) := hd
        clear hd
        go_wp2_with fail
        refine (peek_any b s y.a _ hs hy1 h1.out).mono ?_
        rintro e w2 ⟨rfl, m, rfl⟩
        go_wp2_with fail
        refine (readLetter_any b s y _ hs hy0.out hy1 (h1.out.drewN m)).mono ?_
        rintro e w3 (⟨rfl, hok⟩ | ⟨hb, q, hq⟩)
        · obtain ⟨r1, r2, r3⟩ := rletter_ok hy0.out hok.e
          have hok' : Hid (POk s b (wr.drewN m) w3 (rletter s y).1) := hok
          have hz3 := hok.kc.kb.size
          rw [World.heap_drewN] at hz3
          have hB3 : Hid (Lib.IsBuilder 140 5 w1.heap.size w1.heap.size (Lib.byteCells t.data.toList) w3) := builder_kc (b := b) hB.out (((Kc.refl b wr).drewN m).trans hok.kc) hlt1
          have Hn : Hid (rtextLoop s (s.size + 3 - x.a) ⟨x.a + 1, x.e, x.p⟩ ⟨#[]⟩ = rtextLoop s n (rletter s y).1 (put t (rletter s y).2)) := by
            unfold Hid
            rw [hr.out, textLoop_letter _ _ _ _ hy0.out D.out hok.e]
          clear hok
          have hcl : (Lib.byteCells t.data.toList).length = t.size := byteCells_len t
          have HP : Hid _ := byteCells_put t (rletter s y).2 r3
          have hps := pput_size t (rletter s y).2
          have HPs : Hid _ := hps
          clear hps
          go_wp2_with fail
          refine (Tryz.Builder_WriteByte w1.heap.size w1.heap.size (Lib.byteCells t.data.toList) ((rletter s y).2 : Int) _ hB3.out (by omega) (by omega)).mono ?_
          rintro e w4 ⟨rfl, hB4, hbel⟩
          have hB4' : Hid _ := hB4
          have hbel' : Hid (Below w1.heap.size w3 w4) := hbel
          have hz4 := hbel.size
          clear hB4 hbel
          obtain ⟨n', hn'⟩ : ∃ n', n = n' + 1 := ⟨n - 1, by omega⟩
          go_wp2_with fail
          go_roundw
          case rel =>
            refine ⟨n', (rletter s y).1, put t (rletter s y).2, ?_, hok'.out.e, hok'.out.pc.below hlt1 hbel'.out, ((hk.out.drewN m).trans hok'.out.kc).below hltw hz1 hbel'.out, r2, by omega, by rw [HPs.out]; omega, ?_, by omega⟩
            · unfold Hid; rw [Hn.out, hn']
            · unfold Hid
              rw [HP.out]
              exact .inr hB4'.out
          case measure =>
            rw [(hok'.out.pc.below hlt1 hbel'.out).atOf, h1.out.atOf]
            omega
        · have he' := hq.e
          subst he'
          refine ⟨rfl, .inr ?_⟩
          have e1 : (rtext s x).1 = (rletter s y).1 := by
            rw [R0.out, hr.out]
            exact textLoop_bad _ _ _ _ hy0.out D.out hb
          rw [e1]
          exact ⟨hb, q, hq.trans (hk.out.kb.drewN m)⟩
  · rw [M.out] at hb
    exact absurd HE.out hb
end Go.Proofs.YtdebjhdafnpfkaaGreatDoor

namespace Go.Proofs.YtdebjhdafnpfkaaGreatDoor
open Go.ChangeShapes Go.WideShapes Go.ChangeAt Go.RowKit
set_option linter.unusedVariables false
set_option linter.unusedSimpArgs false

theorem digits_ascii : ∀ (j : Nat) (b : UInt8), (⟨#[48, 49, 50, 51, 52, 53, 54, 55, 56, 57]⟩ : ByteArray).data.toList[j]? = some b → b.toNat < 128 := by
  intro j b h
  have hm := List.mem_of_getElem? h
  simp only [List.mem_cons, List.not_mem_nil, or_false] at hm
  rcases hm with rfl | rfl | rfl | rfl | rfl | rfl | rfl | rfl | rfl | rfl <;> decide

set_option maxHeartbeats 2000000 in
theorem areDigits_any (t : ByteArray) (w : World) (m : Int) (hs : t.size ≤ 4000) (hm : w.cell? ⟨1, 0, none⟩ = some (.int .i64 m)) :
    Calls Tryz.prog 159 #[.string t] w fun e w' => e = .returned (.bool (rnumber t)) ∧ Below w.heap.size w w' := by
  have hP := hasP_one t 48
  by_cases h0 : t.size ≠ 0 ∧ bt t 0 = 48
  · rw [decide_eq_true (by exact h0)] at hP
    have HP : Hid _ := hP
    have Z : Hid ((t.toList == [48]) = rnumber t) := zero_only t h0.2 h0.1
    clear hP h0
    go_enter Tryz.func159, Tryz.ntmps159
    go_wp2_with fail
    refine (Tryz.strings_HasPrefix t ⟨#[48]⟩ _).mono ?_
    rintro e w0 ⟨rfl, hw0⟩
    rw [hw0, show (⟨#[48]⟩ : ByteArray).data.toList = [48] from rfl, HP.out]
    clear hw0
    go_wp2_with fail
    go_ret
    exact ⟨ret_bool' Z.out, Below.refl _ _⟩
  · rw [decide_eq_false (by exact h0)] at hP
    have HP : Hid _ := hP
    have h48 : bt t 0 ≠ 48 := by
      intro e
      by_cases h1 : t.size = 0
      · rw [bt_end t 0 (by omega)] at e; omega
      · exact h0 ⟨h1, e⟩
    have Z : Hid ((pieces t).all (fun p => okP p.data.toList) = rnumber t) := pieces_ok t h48
    have Hm : Hid _ := hm
    have hcl := count_le_size t
    have HL : Hid _ := pieces_len t
    clear hP h0 h48
    go_enter Tryz.func159, Tryz.ntmps159
    go_wp2_with fail
    refine (Tryz.strings_HasPrefix t ⟨#[48]⟩ _).mono ?_
    rintro e w0 ⟨rfl, hw0⟩
    rw [hw0, show (⟨#[48]⟩ : ByteArray).data.toList = [48] from rfl, HP.out]
    clear hw0
    go_wp2_with fail
    refine (Tryz.strings_Split t ⟨#[95]⟩ m _ (by omega) Hm.out (by decide)).mono ?_
    rintro e w1 ⟨rfl, hw1⟩
    have hz1 : w1.heap.size = w.heap.size + 1 := by rw [hw1]; simp
    have hB1 : Hid (Below w.heap.size w w1) := by unfold Hid; rw [hw1]; exact (Below.refl _ _).alloc (Nat.le_refl _) _
    have hc1 : Hid (∀ (k : Nat) (p : ByteArray), (pieces t)[k]? = some p → w1.cell? ⟨w.heap.size, k, none⟩ = some (.string p)) := by
      intro k p hp
      rw [hw1, World.cell?_alloc_at _ _ _ _ rfl]
      show (((pieces t).map Value.string).toArray)[k]? = _
      rw [List.getElem?_toArray, List.getElem?_map, hp]
      rfl
    clear hw1
    generalize hN : Lib.countB t ⟨#[95]⟩ = N at *
    clear hN
    go_wp2_with fail
    go_loopw [12] (fun u12 wr => ∃ k : Nat, k ≤ N + 1 ∧ u12 = .int .i64 k ∧ Hid (((pieces t).take k).all (fun p => okP p.data.toList) = true) ∧ Hid (Below (w.heap.size + 1) w1 wr)) (fun u12 _ => N + 1 - (intOf u12).toNat)
    case atStart => exact ⟨0, by omega, rfl, rfl, Below.refl _ _⟩
    case round =>
      obtain ⟨k, hk, rfl, ht, hB⟩ := hrel
      by_cases hlt : k < N + 1
      · obtain ⟨p, hp⟩ : ∃ p, (pieces t)[k]? = some p := ⟨_, List.getElem?_eq_getElem (by rw [HL.out]; exact hlt)⟩
        have hc : wr.cell? ⟨w.heap.size, k, none⟩ = some (.string p) := by
          rw [hB.out.cell (p := ⟨w.heap.size, k, none⟩) (by simp only; omega)]
          exact hc1.out k p hp
        have hps : p.size ≤ 4000 := Nat.le_trans (splitB_size _ _ _ p (List.mem_of_getElem? hp)) hs
        have hsn : Hid (((pieces t).take (k + 1)).all (fun p => okP p.data.toList) = okP p.data.toList) := by
          unfold Hid
          rw [List.take_add_one, hp, List.all_append, ht.out]
          simp
        have HPk : Hid ((pieces t)[k]? = some p) := hp
        clear hp
        by_cases hp0 : p.size = 0
        · have te : p.toList.isEmpty = true := by rw [toList_empty]; exact decide_eq_true hp0
          have Fin : Hid (rnumber t = false) := by
            unfold Hid
            rw [← Z.out, List.all_eq_false]
            exact ⟨p, List.mem_of_getElem? HPk.out, by rw [okP_empty p hp0]; simp⟩
          clear hp0
          go_wp2_with fail
          go_ret
          exact ⟨ret_bool' Fin.out.symm, hB1.out.trans (hB.out.mono (by omega))⟩
        · have te : p.toList.isEmpty = false := by rw [toList_empty]; exact decide_eq_false hp0
          have hO : Hid _ := okP_some p hp0
          clear hp0
          go_wp2_with fail
          refine (Tryz.strings_Trim_laid p ⟨#[48, 49, 50, 51, 52, 53, 54, 55, 56, 57]⟩ _ (by omega) (by decide) digits_ascii).mono ?_
          rintro e w2 ⟨rfl, hB2⟩
          have hE := mk_empty (Lib.trimS p.data.toList (⟨#[48, 49, 50, 51, 52, 53, 54, 55, 56, 57]⟩ : ByteArray).data.toList)
          have hzr := hB.out.size
          have HB2 : Hid (Below (w.heap.size + 1) w1 w2) := hB.out.trans (hB2.mono (by omega))
          clear hB2
          generalize (⟨(Lib.trimS p.data.toList (⟨#[48, 49, 50, 51, 52, 53, 54, 55, 56, 57]⟩ : ByteArray).data.toList).toArray⟩ : ByteArray) = r at *
          cases hOk : okP p.data.toList
          · have te2 : r.toList.isEmpty = false := by rw [hE]; rw [hO.out] at hOk; exact hOk
            have Fin : Hid (rnumber t = false) := by
              unfold Hid
              rw [← Z.out, List.all_eq_false]
              exact ⟨p, List.mem_of_getElem? HPk.out, by rw [hOk]; simp⟩
            clear hE hOk hO
            go_wp2_with fail
            go_ret
            exact ⟨ret_bool' Fin.out.symm, hB1.out.trans (HB2.out.mono (by omega))⟩
          · have te2 : r.toList.isEmpty = true := by rw [hE]; rw [hO.out] at hOk; exact hOk
            have hsn2 : Hid (((pieces t).take (k + 1)).all (fun p => okP p.data.toList) = true) := by unfold Hid; rw [hsn.out, hOk]
            clear hE hOk hO hsn
            go_wp2_with fail
            go_roundw
            case rel => exact ⟨k + 1, by omega, by go_num, hsn2, HB2⟩
            case measure => simp [intOf]; omega
      · have e1 : k = N + 1 := by omega
        have Fin : Hid (rnumber t = true) := by
          unfold Hid
          have := ht.out
          rw [List.take_of_length_le (by rw [HL.out]; omega)] at this
          rw [← Z.out]
          exact this
        clear e1
        go_wp2_with fail
        go_ret
        exact ⟨ret_bool' Fin.out.symm, hB1.out.trans (hB.out.mono (by omega))⟩
end Go.Proofs.YtdebjhdafnpfkaaGreatDoor

namespace Go.Proofs.YtdebjhdafnpfkaaGreatDoor
open Go.ChangeShapes Go.WideShapes Go.ChangeAt Go.RowKit
set_option linter.unusedVariables false
set_option linter.unusedSimpArgs false

theorem lt_of_cell {w : World} {k o : Nat} {v : Value} (h : w.cell? ⟨k, o, none⟩ = some v) : k < w.heap.size := by
  rcases Nat.lt_or_ge k w.heap.size with h1 | h1
  · exact h1
  · simp [World.cell?, Array.getElem?_eq_none h1] at h
theorem fold_nonneg : ∀ (l : List UInt8) (n : Int), 0 ≤ n → l.all digB = true → 0 ≤ l.foldl stepd n
  | [], n, h, _ => h
  | b :: l, n, h, hd => by
    rw [List.all_cons, Bool.and_eq_true] at hd
    have h2 := hd.1
    simp only [digB, decide_eq_true_eq] at h2
    rw [List.foldl_cons]
    refine fold_nonneg l _ ?_ hd.2
    unfold stepd
    split
    · omega
    · exact h
theorem rdigL_nonneg (l : List UInt8) (h : l.all digB = true) : 0 ≤ rdigL l := fold_nonneg l 0 (Int.le_refl _) h
theorem ret_i64 {a b : Int} (h : a = b) : Ending.returned (.int .i64 a) = .returned (.int .i64 b) := by rw [h]
theorem below_kc {b B : Nat} {w w' : World} (h : Below B w w') (hb : b < w.heap.size) (hB : w.heap.size ≤ B) : Kc b w w' := (Kc.refl b w).below hb hB h
theorem bytes_below (w : World) (e : TypeId) (f : ByteArray) : Below w.heap.size w (Lib.bytesWorld w e f) :=
  ⟨rfl, rfl, rfl, by rw [Lib.bytesWorld_size]; omega, fun k hk => Lib.bytesWorld_at_old w e f k hk⟩

/-- What became of the word, without its sign. -/
structure NumP (b : Nat) (s : ByteArray) (a : Nat) (t : ByteArray) (minus : Bool) (w : World) (e : Ending) (w' : World) : Prop where
  out : (rnumber t = true ∧ rdig t t.size ≤ 999999999999999 ∧ e = .returned (.int .i64 (if minus = true then - rdig t t.size else rdig t t.size)) ∧ PC w' b s a ∧ Kc b w w') ∨
    (rnumber t = false ∧ ∃ q, Pan b w e w' 3 (lineAt s a) q) ∨ (rnumber t = true ∧ 999999999999999 < rdig t t.size ∧ ∃ q, Pan b w e w' 4 (lineAt s a) q)

/-- The digits are gone through. -/
def dg (f : ByteArray) (j : Nat) : Nat := (f.data.toList.getD j 0).toNat
theorem dg_bd (f : ByteArray) (hd : f.data.toList.all digB = true) (j : Nat) (hj : j < f.size) : 48 ≤ dg f j ∧ dg f j ≤ 57 := by
  have hl : f.data.toList.length = f.size := Array.length_toList
  have hm : f.data.toList.getD j 0 ∈ f.data.toList := by
    rw [List.getD_eq_getElem?_getD, List.getElem?_eq_getElem (by omega)]
    exact List.getElem_mem _
  have := List.all_eq_true.1 hd _ hm
  simp only [digB, decide_eq_true_eq] at this
  exact this
theorem rdigL_take (f : ByteArray) (j : Nat) (hj : j < f.size) : rdigL (f.data.toList.take (j + 1)) = if rdigL (f.data.toList.take j) ≤ 999999999999999 then 10 * rdigL (f.data.toList.take j) + dg f j - 48 else rdigL (f.data.toList.take j) := by
  have hl : f.data.toList.length = f.size := Array.length_toList
  have e : f.data.toList.take (j + 1) = f.data.toList.take j ++ [f.data.toList.getD j 0] := by
    rw [List.take_add_one, List.getD_eq_getElem?_getD, List.getElem?_eq_getElem (by omega)]
    rfl
  rw [e, rdigL_snoc]
  rfl
theorem all_take (l : List UInt8) (n : Nat) (h : l.all digB = true) : (l.take n).all digB = true := by
  rw [List.all_eq_true] at *
  intro b hb
  exact h b (List.mem_of_mem_take hb)
theorem rdigL_over (l : List UInt8) (n : Nat) (h : 999999999999999 < rdigL (l.take n)) : 999999999999999 < rdigL l := by
  have := rdigL_stick (l.take n) (l.drop n) h
  rw [List.take_append_drop] at this
  omega

set_option maxHeartbeats 4000000 in
theorem toNumber_any (b : Nat) (s : ByteArray) (a : Nat) (word t : ByteArray) (minus : Bool) (w : World) (m : Int) (hs : s.size ≤ 4000) (ht : t.size ≤ 4000) (hG : 1 < b)
    (hc : Lib.hasPrefix word.data.toList [45] = minus)
    (hdg : (⟨(Lib.trimPrefix word.data.toList (if minus = true then [45] else [43])).toArray⟩ : ByteArray) = t)
    (hm : w.cell? ⟨1, 0, none⟩ = some (.int .i64 m)) (h : PC w b s a) :
    Calls Tryz.prog 151 #[.pointer (some ⟨b, 0, none⟩), .string word] w fun e w' => NumP b s a t minus w e w' := by
  have hlt := h.lt
  have h' : Hid (PC w b s a) := h
  have Hm : Hid _ := hm
  clear h hm
  have hconv := fun (w : World) (f : ByteArray) => Lib.run_convert_string_bytes (P := Tryz.prog) w 9 138 5 f Tryz.underlying9 Tryz.underlying138 Tryz.underlying5
  have Rest : Hid (∀ (w1 : World), Below w.heap.size w w1 → w1.cell? ⟨1, 0, none⟩ = some (.int .i64 m)) := by
    intro w1 hb
    rw [hb.cell (p := ⟨1, 0, none⟩) (by simp only; omega)]
    exact Hm.out
  cases minus with
  | false =>
    simp only [Bool.false_eq_true, if_false] at hdg
    have C1 : Hid (Lib.hasPrefix word.data.toList [45] = false ∧ (⟨(Lib.trimPrefix word.data.toList [43]).toArray⟩ : ByteArray) = t) := ⟨hc, hdg⟩
    clear hc hdg
    go_enter Tryz.func151, Tryz.ntmps151
    go_wp2_with fail
    refine (Tryz.strings_CutPrefix word ⟨#[45]⟩ _).mono ?_
    rintro e w0 ⟨rfl, hw0⟩
    rw [hw0, show (⟨#[45]⟩ : ByteArray).data.toList = [45] from rfl, C1.out.1]
    clear hw0
    go_wp2_with fail
    refine (Tryz.strings_TrimPrefix word ⟨#[43]⟩ _).mono ?_
    rintro e w0 ⟨rfl, hw0⟩
    rw [hw0, show (⟨#[43]⟩ : ByteArray).data.toList = [43] from rfl, C1.out.2]
    clear hw0 C1
    go_wp2_with fail
    refine (areDigits_any t _ m ht Hm.out).mono ?_
    rintro e w1 ⟨rfl, hB1⟩
    have HB1 : Hid (Below w.heap.size w w1) := hB1
    have hz1 := hB1.size
    clear hB1
    cases hnum : rnumber t
    · go_wp2_with fail
      refine (fail_any b s a 3 _ (h'.out.below hlt HB1.out)).mono ?_
      rintro e w2 ⟨q, hq⟩
      have he' := hq.e
      subst he'
      exact ⟨rfl, ⟨.inr (.inl ⟨hnum, q, hq.trans (below_kc HB1.out hlt (Nat.le_refl _)).kb⟩)⟩⟩
    · have hnum' : Hid (rnumber t = true) := hnum
      clear hnum
      have hD0 : Hid ((t.data.toList.filter (fun b => decide (b ≠ 95))).all digB = true) := by
        unfold Hid
        by_cases h48 : bt t 0 = 48
        · have hn := hnum'.out
          have hz : t.size ≠ 0 := by
            intro e
            rw [bt_end t 0 (by omega)] at h48
            omega
          rw [rnumber_zero t h48 hz, decide_eq_true_eq] at hn
          have hl : t.data.toList.length = t.size := Array.length_toList
          rw [List.all_eq_true]
          intro c hcm
          have hcm := (List.mem_filter.1 hcm).1
          obtain ⟨i, hi⟩ := List.getElem?_of_mem hcm
          have hi0 : i = 0 := by
            have := (List.getElem?_eq_some_iff.1 hi).1
            omega
          subst hi0
          obtain ⟨c', hc1, hc2⟩ := bt_list t 0 (by omega)
          rw [hi] at hc1
          cases hc1
          simp only [digB, decide_eq_true_eq]
          omega
        · exact numB_digits _ true (by rw [← rnumber_numB t h48]; exact hnum'.out)
      go_wp2_with fail
      refine (Tryz.strings_ReplaceAll t ⟨#[95]⟩ ⟨#[]⟩ m _ (by omega) (Rest.out w1 HB1.out) (by decide) (by rw [show (⟨#[]⟩ : ByteArray).size = 0 from rfl]; omega)).mono ?_
      rintro e w2 ⟨rfl, hB2⟩
      have HB2 : Hid (Below w.heap.size w w2) := HB1.out.trans (hB2.mono hz1)
      have hz2 := HB2.out.size
      clear hB2
      have hF : Hid ((⟨(Lib.replaceAll t.data.toList (⟨#[95]⟩ : ByteArray).data.toList (⟨#[]⟩ : ByteArray).data.toList).toArray⟩ : ByteArray).data.toList = t.data.toList.filter (fun b => decide (b ≠ 95))) := by
        unfold Hid
        rw [← replaceAll_one]
      generalize (⟨(Lib.replaceAll t.data.toList (⟨#[95]⟩ : ByteArray).data.toList (⟨#[]⟩ : ByteArray).data.toList).toArray⟩ : ByteArray) = f at *
      have hD : Hid (f.data.toList.all digB = true) := by unfold Hid; rw [hF.out]; exact hD0.out
      have hR : Hid (rdig t t.size = rdigL f.data.toList) := by unfold Hid; rw [rdig_all, hF.out]
      have hfs : f.size ≤ 4000 := by
        have hl : f.data.toList.length = f.size := Array.length_toList
        have hl2 : t.data.toList.length = t.size := Array.length_toList
        have := List.length_filter_le (fun b : UInt8 => decide (b ≠ 95)) t.data.toList
        rw [← hF.out] at this
        omega
      clear hF hD0
      have hcell : Hid (∀ j, j < f.size → (Lib.bytesWorld w2 5 f).cell? ⟨w2.heap.size, j, none⟩ = some (.int .u8 (dg f j))) := fun j hj => Lib.bytesWorld_cell w2 5 f j hj
      have HB3 : Hid (Below w.heap.size w (Lib.bytesWorld w2 5 f)) := HB2.out.trans ((bytes_below w2 _ f).mono hz2)
      go_wp2_with fail
      generalize Lib.bytesWorld w2 5 f = w3 at *
      clear hconv
      have h3 : Hid (PC w3 b s a) := h'.out.below hlt HB3.out
      go_loop [7, 30] (fun u7 u30 => ∃ k : Nat, k ≤ f.size ∧ u30 = .int .i64 k ∧ u7 = .int .i64 (rdigL (f.data.toList.take k)) ∧ rdigL (f.data.toList.take k) ≤ 999999999999999) (fun _ u30 => f.size - (intOf u30).toNat)
      case atStart => exact ⟨0, Nat.zero_le _, rfl, rfl, by rw [List.take_zero]; decide⟩
      case round =>
        obtain ⟨k, hk, rfl, rfl, hle⟩ := hrel
        have hnn := rdigL_nonneg _ (all_take _ k hD.out)
        by_cases hlk : k < f.size
        · have hc := hcell.out k hlk
          have hbd := dg_bd f hD.out k hlk
          have hnx : Hid _ := rdigL_take f k hlk
          have hnx2 : Hid (rdigL (f.data.toList.take (k + 1)) = 10 * rdigL (f.data.toList.take k) + dg f k - 48) := by
            unfold Hid; rw [hnx.out, if_pos hle]
          clear hnx
          generalize rdigL (f.data.toList.take k) = n at *
          generalize hdk : dg f k = d at *
          clear hdk
          by_cases hov : 999999999999999 < 10 * n + d - 48
          · go_wp2_with fail
            refine (fail_any b s a 4 _ h3.out).mono ?_
            rintro e w4 ⟨q, hq⟩
            have he' := hq.e
            subst he'
            refine ⟨rfl, ⟨.inr (.inr ⟨hnum'.out, ?_, q, hq.trans (below_kc HB3.out hlt (Nat.le_refl _)).kb⟩)⟩⟩
            rw [hR.out]
            exact rdigL_over _ (k + 1) (by rw [hnx2.out]; exact hov)
          · go_wp2_with fail
            go_round
            case rel => exact ⟨k + 1, by omega, by go_num, by rw [hnx2.out]; congr 1; omega, by rw [hnx2.out]; omega⟩
            case measure => simp [intOf]; omega
        · have e1 : f.data.toList.take k = f.data.toList := List.take_of_length_le (by rw [show f.data.toList.length = f.size from Array.length_toList]; omega)
          rw [e1] at hle hnn ⊢
          rw [← hR.out] at hle hnn ⊢
          go_wp2_with fail
          go_ret
          exact ⟨.inl ⟨hnum'.out, hle, rfl, h3.out, below_kc HB3.out hlt (Nat.le_refl _)⟩⟩
  | true =>
    simp only [if_true] at hdg
    have C1 : Hid (Lib.hasPrefix word.data.toList [45] = true ∧ (⟨(Lib.trimPrefix word.data.toList [45]).toArray⟩ : ByteArray) = t) := ⟨hc, hdg⟩
    clear hc hdg
    go_enter Tryz.func151, Tryz.ntmps151
    go_wp2_with fail
    refine (Tryz.strings_CutPrefix word ⟨#[45]⟩ _).mono ?_
    rintro e w0 ⟨rfl, hw0⟩
    rw [hw0, show (⟨#[45]⟩ : ByteArray).data.toList = [45] from rfl, C1.out.1, C1.out.2]
    clear hw0 C1
    go_wp2_with fail
    refine (areDigits_any t _ m ht Hm.out).mono ?_
    rintro e w1 ⟨rfl, hB1⟩
    have HB1 : Hid (Below w.heap.size w w1) := hB1
    have hz1 := hB1.size
    clear hB1
    cases hnum : rnumber t
    · go_wp2_with fail
      refine (fail_any b s a 3 _ (h'.out.below hlt HB1.out)).mono ?_
      rintro e w2 ⟨q, hq⟩
      have he' := hq.e
      subst he'
      exact ⟨rfl, ⟨.inr (.inl ⟨hnum, q, hq.trans (below_kc HB1.out hlt (Nat.le_refl _)).kb⟩)⟩⟩
    · have hnum' : Hid (rnumber t = true) := hnum
      clear hnum
      have hD0 : Hid ((t.data.toList.filter (fun b => decide (b ≠ 95))).all digB = true) := by
        unfold Hid
        by_cases h48 : bt t 0 = 48
        · have hn := hnum'.out
          have hz : t.size ≠ 0 := by
            intro e
            rw [bt_end t 0 (by omega)] at h48
            omega
          rw [rnumber_zero t h48 hz, decide_eq_true_eq] at hn
          have hl : t.data.toList.length = t.size := Array.length_toList
          rw [List.all_eq_true]
          intro c hcm
          have hcm := (List.mem_filter.1 hcm).1
          obtain ⟨i, hi⟩ := List.getElem?_of_mem hcm
          have hi0 : i = 0 := by
            have := (List.getElem?_eq_some_iff.1 hi).1
            omega
          subst hi0
          obtain ⟨c', hc1, hc2⟩ := bt_list t 0 (by omega)
          rw [hi] at hc1
          cases hc1
          simp only [digB, decide_eq_true_eq]
          omega
        · exact numB_digits _ true (by rw [← rnumber_numB t h48]; exact hnum'.out)
      go_wp2_with fail
      refine (Tryz.strings_ReplaceAll t ⟨#[95]⟩ ⟨#[]⟩ m _ (by omega) (Rest.out w1 HB1.out) (by decide) (by rw [show (⟨#[]⟩ : ByteArray).size = 0 from rfl]; omega)).mono ?_
      rintro e w2 ⟨rfl, hB2⟩
      have HB2 : Hid (Below w.heap.size w w2) := HB1.out.trans (hB2.mono hz1)
      have hz2 := HB2.out.size
      clear hB2
      have hF : Hid ((⟨(Lib.replaceAll t.data.toList (⟨#[95]⟩ : ByteArray).data.toList (⟨#[]⟩ : ByteArray).data.toList).toArray⟩ : ByteArray).data.toList = t.data.toList.filter (fun b => decide (b ≠ 95))) := by
        unfold Hid
        rw [← replaceAll_one]
      generalize (⟨(Lib.replaceAll t.data.toList (⟨#[95]⟩ : ByteArray).data.toList (⟨#[]⟩ : ByteArray).data.toList).toArray⟩ : ByteArray) = f at *
      have hD : Hid (f.data.toList.all digB = true) := by unfold Hid; rw [hF.out]; exact hD0.out
      have hR : Hid (rdig t t.size = rdigL f.data.toList) := by unfold Hid; rw [rdig_all, hF.out]
      have hfs : f.size ≤ 4000 := by
        have hl : f.data.toList.length = f.size := Array.length_toList
        have hl2 : t.data.toList.length = t.size := Array.length_toList
        have := List.length_filter_le (fun b : UInt8 => decide (b ≠ 95)) t.data.toList
        rw [← hF.out] at this
        omega
      clear hF hD0
      have hcell : Hid (∀ j, j < f.size → (Lib.bytesWorld w2 5 f).cell? ⟨w2.heap.size, j, none⟩ = some (.int .u8 (dg f j))) := fun j hj => Lib.bytesWorld_cell w2 5 f j hj
      have HB3 : Hid (Below w.heap.size w (Lib.bytesWorld w2 5 f)) := HB2.out.trans ((bytes_below w2 _ f).mono hz2)
      go_wp2_with fail
      generalize Lib.bytesWorld w2 5 f = w3 at *
      clear hconv
      have h3 : Hid (PC w3 b s a) := h'.out.below hlt HB3.out
      go_loop [7, 30] (fun u7 u30 => ∃ k : Nat, k ≤ f.size ∧ u30 = .int .i64 k ∧ u7 = .int .i64 (rdigL (f.data.toList.take k)) ∧ rdigL (f.data.toList.take k) ≤ 999999999999999) (fun _ u30 => f.size - (intOf u30).toNat)
      case atStart => exact ⟨0, Nat.zero_le _, rfl, rfl, by rw [List.take_zero]; decide⟩
      case round =>
        obtain ⟨k, hk, rfl, rfl, hle⟩ := hrel
        have hnn := rdigL_nonneg _ (all_take _ k hD.out)
        by_cases hlk : k < f.size
        · have hc := hcell.out k hlk
          have hbd := dg_bd f hD.out k hlk
          have hnx : Hid _ := rdigL_take f k hlk
          have hnx2 : Hid (rdigL (f.data.toList.take (k + 1)) = 10 * rdigL (f.data.toList.take k) + dg f k - 48) := by
            unfold Hid; rw [hnx.out, if_pos hle]
          clear hnx
          generalize rdigL (f.data.toList.take k) = n at *
          generalize hdk : dg f k = d at *
          clear hdk
          by_cases hov : 999999999999999 < 10 * n + d - 48
          · go_wp2_with fail
            refine (fail_any b s a 4 _ h3.out).mono ?_
            rintro e w4 ⟨q, hq⟩
            have he' := hq.e
            subst he'
            refine ⟨rfl, ⟨.inr (.inr ⟨hnum'.out, ?_, q, hq.trans (below_kc HB3.out hlt (Nat.le_refl _)).kb⟩)⟩⟩
            rw [hR.out]
            exact rdigL_over _ (k + 1) (by rw [hnx2.out]; exact hov)
          · go_wp2_with fail
            go_round
            case rel => exact ⟨k + 1, by omega, by go_num, by rw [hnx2.out]; congr 1; omega, by rw [hnx2.out]; omega⟩
            case measure => simp [intOf]; omega
        · have e1 : f.data.toList.take k = f.data.toList := List.take_of_length_le (by rw [show f.data.toList.length = f.size from Array.length_toList]; omega)
          rw [e1] at hle hnn ⊢
          rw [← hR.out] at hle hnn ⊢
          go_wp2_with fail
          go_ret
          exact ⟨.inl ⟨hnum'.out, hle, rfl, h3.out, below_kc HB3.out hlt (Nat.le_refl _)⟩⟩
end Go.Proofs.YtdebjhdafnpfkaaGreatDoor

namespace Go.Proofs.YtdebjhdafnpfkaaGreatDoor
open Go.ChangeShapes Go.WideShapes Go.ChangeAt Go.RowKit
set_option linter.unusedVariables false
set_option linter.unusedSimpArgs false

theorem ext_bt0 (s : ByteArray) (a y : Nat) (h : a < y) (hy : y ≤ s.size) : bt (s.extract a y) 0 = bt s a := by
  have h1 : 0 < (s.extract a y).size := by rw [size_ext s a y hy]; omega
  unfold bt
  rw [dif_pos h1, dif_pos (by omega), ByteArray.getElem_extract]
  rfl
theorem trim_one (s : ByteArray) (a y : Nat) (c : UInt8) (h : a < y) (hy : y ≤ s.size) (hc : bt s a = c.toNat) : (⟨(Lib.trimPrefix (s.extract a y).data.toList [c]).toArray⟩ : ByteArray) = s.extract (a + 1) y := by
  have hp : Lib.hasPrefix (s.extract a y).data.toList [c] = true := by
    rw [hasP_one, decide_eq_true_eq, ext_bt0 s a y h hy, size_ext s a y hy]
    exact ⟨by omega, hc⟩
  apply bytes_ext
  show (Lib.trimPrefix (s.extract a y).data.toList [c]).toArray.toList = _
  unfold Lib.trimPrefix
  rw [if_pos hp, Lib.extract_data, Lib.extract_data, List.length_singleton, List.drop_take, List.drop_drop, Nat.sub_sub]
theorem trim_none (t : ByteArray) (c : UInt8) (h : t.size = 0 ∨ bt t 0 ≠ c.toNat) : (⟨(Lib.trimPrefix t.data.toList [c]).toArray⟩ : ByteArray) = t := by
  have hp : Lib.hasPrefix t.data.toList [c] = false := by
    rw [hasP_one, decide_eq_false_iff_not]
    rintro ⟨h1, h2⟩
    rcases h with h | h
    · exact h1 h
    · exact h h2
  apply bytes_ext
  unfold Lib.trimPrefix
  rw [if_neg (by rw [hp]; simp)]
/-- What is no `true` and no `false`. -/
theorem rwordAt_num (s : ByteArray) (a0 : Nat) (minus plus : Bool) (x1 : St) (h : ¬ (minus = false ∧ plus = false ∧ (s.extract x1.a (scan letterB s x1.a) = trueS ∨ s.extract x1.a (scan letterB s x1.a) = falseS))) :
    rwordAt s a0 minus plus x1 = if rnumber (s.extract x1.a (scan letterB s x1.a)) = false then (rno ⟨scan letterB s x1.a, x1.e, x1.p⟩ 3 a0, V0)
      else (if 999999999999999 < rdig (s.extract x1.a (scan letterB s x1.a)) (s.extract x1.a (scan letterB s x1.a)).size then rno ⟨scan letterB s x1.a, x1.e, x1.p⟩ 4 a0 else ⟨scan letterB s x1.a, x1.e, x1.p⟩,
        ⟨110, if minus = true then - rdig (s.extract x1.a (scan letterB s x1.a)) (s.extract x1.a (scan letterB s x1.a)).size else rdig (s.extract x1.a (scan letterB s x1.a)) (s.extract x1.a (scan letterB s x1.a)).size, ⟨#[]⟩, [], []⟩) := by
  unfold rwordAt rrun
  simp only
  rw [if_neg h]
/-- The word is a number, or it is wrong. -/
def WordP (b : Nat) (s : ByteArray) (x : St) (w : World) (e : Ending) (w' : World) : Prop :=
  (∃ v, e = .returned v ∧ PLeaf v (rword s x).2 ∧ POk s b w w' (rword s x).1) ∨ PBad s b w e w' (rword s x).1
theorem first_ne (t : ByteArray) (u : ByteArray) (h : bt t 0 ≠ bt u 0) : t ≠ u := fun e => h (by rw [e])
theorem bt_true : bt trueS 0 = 116 := by decide
theorem bt_false : bt falseS 0 = 102 := by decide

set_option maxHeartbeats 2000000 in
set_option maxRecDepth 100000 in
theorem readWord_plus (b : Nat) (s : ByteArray) (x : St) (w : World) (m : Int) (hs : s.size ≤ 4000) (he : x.e = 0) (ha : x.a ≤ s.size) (hG : 1 < b)
    (hm : w.cell? ⟨1, 0, none⟩ = some (.int .i64 m)) (hc : bt s x.a = 43) (h : PC w b s x.a) :
    Calls Tryz.prog 138 #[.pointer (some ⟨b, 0, none⟩)] w fun e w' => WordP b s x w e w' := by
  have h' : Hid (PC w b s x.a) := h
  have hA := h.A
  have hlt := h.lt
  have HE : Hid (x.e = 0) := he
  have Hm : Hid _ := hm
  have hmlt := lt_of_cell hm
  clear h he hm
  have hl : x.a < s.size := bt_lt' s x.a 43 hc (by decide)
  have t1 : ((bt s x.a : Int) == 43) = true := by simp; omega
  have t2 : ((bt s x.a : Int) == 45) = false := by simp; omega
  have hA1 : x.a + 1 ≤ s.size := hl
  have HL1 : Hid (lineAt s (x.a + 1) = lineAt s x.a) := by
    show (if bt s x.a = 10 then _ else _) = _
    rw [if_neg (by omega)]
  have R0 : Hid (rword s x = rwordAt s x.a false true ⟨x.a + 1, x.e, x.p⟩) := by
    unfold Hid rword
    rw [ris_pk s x 45 HE.out (by decide), ris_pk s x 43 HE.out (by decide), hc]
    rfl
  have Hc : Hid (bt s x.a = 43) := hc
  clear hc
  have h1 := scan_ge letterB s (x.a + 1)
  have h2 := scan_le letterB s (x.a + 1) hA1
  have hL : Hid (lineAt s (scan letterB s (x.a + 1)) = lineAt s x.a) := (lineAt_scan _ _ (by decide) _).trans HL1.out
  go_enter Tryz.func138, Tryz.ntmps138
  go_wp2_with fail
  refine (peek_any b s x.a _ hs ha h'.out).mono ?_
  rintro e w1 ⟨rfl, n, rfl⟩
  go_wp2_with fail
  refine (step_any b s x.a _ hs hl (h'.out.drewN n)).mono ?_
  rintro e w2 ⟨rfl, hp2, hk2⟩
  have HPC : Hid (PC w2 b s (x.a + 1)) := hp2
  have HKC : Hid (Kc b w w2) := ((Kc.refl _ _).drewN n).trans hk2
  clear hp2 hk2
  go_wp2_with fail
  refine (take_isOfName b s (x.a + 1) _ hs hA1 HPC.out).mono ?_
  rintro e w3 ⟨rfl, h3, hk3⟩
  obtain ⟨hT3, hA3, hL3, hF3, hlt3⟩ := h3
  have h3' : Hid (PC w3 b s (scan letterB s (x.a + 1))) := ⟨hT3, hA3, hL3, hF3, hlt3⟩
  have HK3 : Hid (Kc b w w3) := HKC.out.trans hk3
  clear hk3 HKC HPC
  have h1' : x.a ≤ scan letterB s (x.a + 1) := by omega
  generalize hy : scan letterB s (x.a + 1) = y at *
  have Hy : Hid _ := hy
  clear hy
  go_wp2_with fail
  go_quiet (fail)
  have HPW : Hid (PC (w3.drewN nq) b s y) := h3'.out.drewN nq
  have HKW : Hid (Kc b w (w3.drewN nq)) := HK3.out.drewN nq
  generalize w3.drewN nq = w4 at *
  have hm4 : Hid (w4.cell? ⟨1, 0, none⟩ = some (.int .i64 m)) := by
    unfold Hid
    rw [HKW.out.kb.cell hmlt (by omega)]
    exact Hm.out
  clear h3' HK3 hT3 hA3 hL3 hF3 hlt3 hA
  have hsz : (s.extract x.a y).size = y - x.a := size_ext s x.a y (by omega)
  have Hsz : Hid _ := hsz
  clear hsz
  have hb0 : bt (s.extract x.a y) 0 = 43 := by rw [ext_bt0 s x.a y (by omega) (by omega)]; exact Hc.out
  have tT : ((s.extract x.a y).toList == [116, 114, 117, 101]) = false := by rw [true_beq]; exact decide_eq_false (first_ne _ _ (by rw [hb0, bt_true]; decide))
  have tF : ((s.extract x.a y).toList == [102, 97, 108, 115, 101]) = false := by rw [false_beq]; exact decide_eq_false (first_ne _ _ (by rw [hb0, bt_false]; decide))
  have C1 : Hid (Lib.hasPrefix (s.extract x.a y).data.toList [45] = false) := by
    unfold Hid
    rw [hasP_one, hb0]
    exact decide_eq_false (fun h => by have := h.2; simp at this)
  have C2 : Hid ((⟨(Lib.trimPrefix (s.extract x.a y).data.toList (if false = true then [45] else [43])).toArray⟩ : ByteArray) = s.extract (x.a + 1) y) := trim_one s x.a y 43 (by omega) (by omega) Hc.out
  have R : Hid (rword s x = if rnumber (s.extract (x.a + 1) y) = false then (rno ⟨y, x.e, x.p⟩ 3 x.a, V0) else (if 999999999999999 < rdig (s.extract (x.a + 1) y) (s.extract (x.a + 1) y).size then rno ⟨y, x.e, x.p⟩ 4 x.a else ⟨y, x.e, x.p⟩, ⟨110, if false = true then - rdig (s.extract (x.a + 1) y) (s.extract (x.a + 1) y).size else rdig (s.extract (x.a + 1) y) (s.extract (x.a + 1) y).size, ⟨#[]⟩, [], []⟩)) := by
    unfold Hid
    rw [R0.out, rwordAt_num _ _ _ _ _ (by simp)]
    simp only [Hy.out]
  clear hb0
  have htt : (s.extract (x.a + 1) y).size ≤ 4000 := by rw [size_ext s (x.a + 1) y (by omega)]; omega
  have Htt : Hid _ := htt
  clear htt
  generalize s.extract (x.a + 1) y = tt at *
  have htt := Htt.out
  clear Htt
  generalize hwd : s.extract x.a y = word at *
  have Hwd : Hid _ := hwd
  clear hwd
  go_wp2_with fail
  refine (toNumber_any b s y word tt false _ m hs (by omega) hG C1.out C2.out hm4.out HPW.out).mono ?_
  rintro e w5 ⟨hN⟩
  rcases hN with ⟨n1, n2, rfl, n4, n5⟩ | ⟨n1, q, hq⟩ | ⟨n1, n2, q, hq⟩
  · have HN : Hid (rnumber tt = true ∧ rdig tt tt.size ≤ 999999999999999 ∧ PC w5 b s y ∧ Kc b w4 w5) := ⟨n1, n2, n4, n5⟩
    clear n1 n2 n4 n5
    go_wp2_with fail
    go_ret
    refine .inl ⟨_, rfl, ?_, ?_⟩
    · rw [R.out, if_neg (by rw [HN.out.1]; simp)]
      exact leaf_num _
    · rw [R.out, if_neg (by rw [HN.out.1]; simp), if_neg (by have := HN.out.2.1; omega)]
      exact ⟨HE.out, HN.out.2.2.1, HKW.out.trans HN.out.2.2.2⟩
  · have he' := hq.e
    subst he'
    refine ⟨rfl, .inr ?_⟩
    rw [R.out, if_pos n1, rno_on _ _ _ (by exact HE.out)]
    rw [hL.out] at hq
    exact ⟨by simp, q, hq.trans HKW.out.kb⟩
  · have he' := hq.e
    subst he'
    refine ⟨rfl, .inr ?_⟩
    rw [R.out, if_neg (by rw [n1]; simp), if_pos n2, rno_on _ _ _ (by exact HE.out)]
    rw [hL.out] at hq
    exact ⟨by simp, q, hq.trans HKW.out.kb⟩


set_option maxHeartbeats 2000000 in
set_option maxRecDepth 100000 in
theorem readWord_minus (b : Nat) (s : ByteArray) (x : St) (w : World) (m : Int) (hs : s.size ≤ 4000) (he : x.e = 0) (ha : x.a ≤ s.size) (hG : 1 < b)
    (hm : w.cell? ⟨1, 0, none⟩ = some (.int .i64 m)) (hc : bt s x.a = 45) (h : PC w b s x.a) :
    Calls Tryz.prog 138 #[.pointer (some ⟨b, 0, none⟩)] w fun e w' => WordP b s x w e w' := by
  have h' : Hid (PC w b s x.a) := h
  have hA := h.A
  have hlt := h.lt
  have HE : Hid (x.e = 0) := he
  have Hm : Hid _ := hm
  have hmlt := lt_of_cell hm
  clear h he hm
  have hl : x.a < s.size := bt_lt' s x.a 45 hc (by decide)
  have t1 : ((bt s x.a : Int) == 45) = true := by simp; omega
  have t2 : ((bt s x.a : Int) == 43) = false := by simp; omega
  have hA1 : x.a + 1 ≤ s.size := hl
  have HL1 : Hid (lineAt s (x.a + 1) = lineAt s x.a) := by
    show (if bt s x.a = 10 then _ else _) = _
    rw [if_neg (by omega)]
  have R0 : Hid (rword s x = rwordAt s x.a true false ⟨x.a + 1, x.e, x.p⟩) := by
    unfold Hid rword
    rw [ris_pk s x 45 HE.out (by decide), ris_pk s x 43 HE.out (by decide), hc]
    rfl
  have Hc : Hid (bt s x.a = 45) := hc
  clear hc
  have h1 := scan_ge letterB s (x.a + 1)
  have h2 := scan_le letterB s (x.a + 1) hA1
  have hL : Hid (lineAt s (scan letterB s (x.a + 1)) = lineAt s x.a) := (lineAt_scan _ _ (by decide) _).trans HL1.out
  go_enter Tryz.func138, Tryz.ntmps138
  go_wp2_with fail
  refine (peek_any b s x.a _ hs ha h'.out).mono ?_
  rintro e w1 ⟨rfl, n, rfl⟩
  go_wp2_with fail
  refine (peek_any b s x.a _ hs ha (h'.out.drewN n)).mono ?_
  rintro e w1 ⟨rfl, n2, hw2⟩
  rw [World.drewN_drewN] at hw2
  subst hw2
  go_wp2_with fail
  refine (step_any b s x.a _ hs hl (h'.out.drewN (n + n2))).mono ?_
  rintro e w2 ⟨rfl, hp2, hk2⟩
  have HPC : Hid (PC w2 b s (x.a + 1)) := hp2
  have HKC : Hid (Kc b w w2) := ((Kc.refl _ _).drewN (n + n2)).trans hk2
  clear hp2 hk2
  go_wp2_with fail
  refine (take_isOfName b s (x.a + 1) _ hs hA1 HPC.out).mono ?_
  rintro e w3 ⟨rfl, h3, hk3⟩
  obtain ⟨hT3, hA3, hL3, hF3, hlt3⟩ := h3
  have h3' : Hid (PC w3 b s (scan letterB s (x.a + 1))) := ⟨hT3, hA3, hL3, hF3, hlt3⟩
  have HK3 : Hid (Kc b w w3) := HKC.out.trans hk3
  clear hk3 HKC HPC
  have h1' : x.a ≤ scan letterB s (x.a + 1) := by omega
  generalize hy : scan letterB s (x.a + 1) = y at *
  have Hy : Hid _ := hy
  clear hy
  go_wp2_with fail
  go_quiet (fail)
  have HPW : Hid (PC (w3.drewN nq) b s y) := h3'.out.drewN nq
  have HKW : Hid (Kc b w (w3.drewN nq)) := HK3.out.drewN nq
  generalize w3.drewN nq = w4 at *
  have hm4 : Hid (w4.cell? ⟨1, 0, none⟩ = some (.int .i64 m)) := by
    unfold Hid
    rw [HKW.out.kb.cell hmlt (by omega)]
    exact Hm.out
  clear h3' HK3 hT3 hA3 hL3 hF3 hlt3 hA
  have hsz : (s.extract x.a y).size = y - x.a := size_ext s x.a y (by omega)
  have Hsz : Hid _ := hsz
  clear hsz
  have hb0 : bt (s.extract x.a y) 0 = 45 := by rw [ext_bt0 s x.a y (by omega) (by omega)]; exact Hc.out
  have tT : ((s.extract x.a y).toList == [116, 114, 117, 101]) = false := by rw [true_beq]; exact decide_eq_false (first_ne _ _ (by rw [hb0, bt_true]; decide))
  have tF : ((s.extract x.a y).toList == [102, 97, 108, 115, 101]) = false := by rw [false_beq]; exact decide_eq_false (first_ne _ _ (by rw [hb0, bt_false]; decide))
  have C1 : Hid (Lib.hasPrefix (s.extract x.a y).data.toList [45] = true) := by
    unfold Hid
    rw [hasP_one, hb0]
    exact decide_eq_true ⟨by have := Hsz.out; omega, rfl⟩
  have C2 : Hid ((⟨(Lib.trimPrefix (s.extract x.a y).data.toList (if true = true then [45] else [43])).toArray⟩ : ByteArray) = s.extract (x.a + 1) y) := trim_one s x.a y 45 (by omega) (by omega) Hc.out
  have R : Hid (rword s x = if rnumber (s.extract (x.a + 1) y) = false then (rno ⟨y, x.e, x.p⟩ 3 x.a, V0) else (if 999999999999999 < rdig (s.extract (x.a + 1) y) (s.extract (x.a + 1) y).size then rno ⟨y, x.e, x.p⟩ 4 x.a else ⟨y, x.e, x.p⟩, ⟨110, if true = true then - rdig (s.extract (x.a + 1) y) (s.extract (x.a + 1) y).size else rdig (s.extract (x.a + 1) y) (s.extract (x.a + 1) y).size, ⟨#[]⟩, [], []⟩)) := by
    unfold Hid
    rw [R0.out, rwordAt_num _ _ _ _ _ (by simp)]
    simp only [Hy.out]
  clear hb0
  have htt : (s.extract (x.a + 1) y).size ≤ 4000 := by rw [size_ext s (x.a + 1) y (by omega)]; omega
  have Htt : Hid _ := htt
  clear htt
  generalize s.extract (x.a + 1) y = tt at *
  have htt := Htt.out
  clear Htt
  generalize hwd : s.extract x.a y = word at *
  have Hwd : Hid _ := hwd
  clear hwd
  go_wp2_with fail
  refine (toNumber_any b s y word tt true _ m hs (by omega) hG C1.out C2.out hm4.out HPW.out).mono ?_
  rintro e w5 ⟨hN⟩
  rcases hN with ⟨n1, n2, rfl, n4, n5⟩ | ⟨n1, q, hq⟩ | ⟨n1, n2, q, hq⟩
  · have HN : Hid (rnumber tt = true ∧ rdig tt tt.size ≤ 999999999999999 ∧ PC w5 b s y ∧ Kc b w4 w5) := ⟨n1, n2, n4, n5⟩
    clear n1 n2 n4 n5
    go_wp2_with fail
    go_ret
    refine .inl ⟨_, rfl, ?_, ?_⟩
    · rw [R.out, if_neg (by rw [HN.out.1]; simp)]
      exact leaf_num _
    · rw [R.out, if_neg (by rw [HN.out.1]; simp), if_neg (by have := HN.out.2.1; omega)]
      exact ⟨HE.out, HN.out.2.2.1, HKW.out.trans HN.out.2.2.2⟩
  · have he' := hq.e
    subst he'
    refine ⟨rfl, .inr ?_⟩
    rw [R.out, if_pos n1, rno_on _ _ _ (by exact HE.out)]
    rw [hL.out] at hq
    exact ⟨by simp, q, hq.trans HKW.out.kb⟩
  · have he' := hq.e
    subst he'
    refine ⟨rfl, .inr ?_⟩
    rw [R.out, if_neg (by rw [n1]; simp), if_pos n2, rno_on _ _ _ (by exact HE.out)]
    rw [hL.out] at hq
    exact ⟨by simp, q, hq.trans HKW.out.kb⟩


set_option maxHeartbeats 2000000 in
set_option maxRecDepth 100000 in
theorem readWord_plain (b : Nat) (s : ByteArray) (x : St) (w : World) (m : Int) (hs : s.size ≤ 4000) (he : x.e = 0) (ha : x.a ≤ s.size) (hG : 1 < b)
    (hm : w.cell? ⟨1, 0, none⟩ = some (.int .i64 m)) (hc : bt s x.a ≠ 43 ∧ bt s x.a ≠ 45) (h : PC w b s x.a) :
    Calls Tryz.prog 138 #[.pointer (some ⟨b, 0, none⟩)] w fun e w' => WordP b s x w e w' := by
  have h' : Hid (PC w b s x.a) := h
  have hA := h.A
  have hlt := h.lt
  have HE : Hid (x.e = 0) := he
  have Hm : Hid _ := hm
  have hmlt := lt_of_cell hm
  clear h he hm
  have t1 : ((bt s x.a : Int) == 43) = false := by simp; omega
  have t2 : ((bt s x.a : Int) == 45) = false := by simp; omega
  have hA1 : x.a ≤ s.size := ha
  have HL1 : Hid (lineAt s x.a = lineAt s x.a) := rfl
  have R0 : Hid (rword s x = rwordAt s x.a false false x) := by
    unfold Hid rword
    have e1 : ris s x 45 = false := by rw [ris_pk s x 45 HE.out (by decide)]; exact decide_eq_false (by omega)
    have e2 : ris s x 43 = false := by rw [ris_pk s x 43 HE.out (by decide)]; exact decide_eq_false (by omega)
    rw [e1, e2]
    rfl
  have Hc : Hid (bt s x.a ≠ 43 ∧ bt s x.a ≠ 45) := hc
  clear hc
  have h1 := scan_ge letterB s x.a
  have h2 := scan_le letterB s x.a hA1
  have hL : Hid (lineAt s (scan letterB s x.a) = lineAt s x.a) := (lineAt_scan _ _ (by decide) _).trans HL1.out
  go_enter Tryz.func138, Tryz.ntmps138
  go_wp2_with fail
  refine (peek_any b s x.a _ hs ha h'.out).mono ?_
  rintro e w1 ⟨rfl, n, rfl⟩
  go_wp2_with fail
  refine (peek_any b s x.a _ hs ha (h'.out.drewN n)).mono ?_
  rintro e w1 ⟨rfl, n2, hw2⟩
  rw [World.drewN_drewN] at hw2
  subst hw2
  have HPC : Hid (PC (w.drewN (n + n2)) b s x.a) := h'.out.drewN _
  have HKC : Hid (Kc b w (w.drewN (n + n2))) := (Kc.refl _ _).drewN _
  go_wp2_with fail
  refine (take_isOfName b s x.a _ hs hA1 HPC.out).mono ?_
  rintro e w3 ⟨rfl, h3, hk3⟩
  obtain ⟨hT3, hA3, hL3, hF3, hlt3⟩ := h3
  have h3' : Hid (PC w3 b s (scan letterB s x.a)) := ⟨hT3, hA3, hL3, hF3, hlt3⟩
  have HK3 : Hid (Kc b w w3) := HKC.out.trans hk3
  clear hk3 HKC HPC
  have h1' : x.a ≤ scan letterB s x.a := by omega
  generalize hy : scan letterB s x.a = y at *
  have Hy : Hid _ := hy
  clear hy
  go_wp2_with fail
  go_quiet (fail)
  have HPW : Hid (PC (w3.drewN nq) b s y) := h3'.out.drewN nq
  have HKW : Hid (Kc b w (w3.drewN nq)) := HK3.out.drewN nq
  generalize w3.drewN nq = w4 at *
  have hm4 : Hid (w4.cell? ⟨1, 0, none⟩ = some (.int .i64 m)) := by
    unfold Hid
    rw [HKW.out.kb.cell hmlt (by omega)]
    exact Hm.out
  clear h3' HK3 hT3 hA3 hL3 hF3 hlt3 hA
  have hsz : (s.extract x.a y).size = y - x.a := size_ext s x.a y (by omega)
  have Hsz : Hid _ := hsz
  clear hsz
  have hb0 : (s.extract x.a y).size = 0 ∨ (bt (s.extract x.a y) 0 ≠ 43 ∧ bt (s.extract x.a y) 0 ≠ 45) := by
    by_cases e : y = x.a
    · left; have := Hsz.out; omega
    · right; rw [ext_bt0 s x.a y (by omega) (by omega)]; exact Hc.out
  have C1 : Hid (Lib.hasPrefix (s.extract x.a y).data.toList [45] = false) := by
    unfold Hid
    rw [hasP_one, decide_eq_false_iff_not]
    rintro ⟨q1, q2⟩
    rcases hb0 with q | q
    · exact q1 q
    · exact q.2 q2
  have C2 : Hid ((⟨(Lib.trimPrefix (s.extract x.a y).data.toList (if false = true then [45] else [43])).toArray⟩ : ByteArray) = s.extract x.a y) := trim_none _ 43 (hb0.elim .inl (fun q => .inr q.1))
  have Rt : Hid (s.extract x.a y = trueS → rword s x = (⟨y, x.e, x.p⟩, ⟨98, 1, ⟨#[]⟩, [], []⟩)) := by
    intro e
    rw [R0.out]
    unfold rwordAt rrun
    simp only [Hy.out]
    rw [if_pos ⟨trivial, trivial, .inl e⟩, if_pos e]
  have Rf : Hid (s.extract x.a y ≠ trueS → s.extract x.a y = falseS → rword s x = (⟨y, x.e, x.p⟩, ⟨98, 0, ⟨#[]⟩, [], []⟩)) := by
    intro e0 e
    rw [R0.out]
    unfold rwordAt rrun
    simp only [Hy.out]
    rw [if_pos ⟨trivial, trivial, .inr e⟩, if_neg e0]
  have Rn : Hid (s.extract x.a y ≠ trueS → s.extract x.a y ≠ falseS → rword s x = if rnumber (s.extract x.a y) = false then (rno ⟨y, x.e, x.p⟩ 3 x.a, V0) else (if 999999999999999 < rdig (s.extract x.a y) (s.extract x.a y).size then rno ⟨y, x.e, x.p⟩ 4 x.a else ⟨y, x.e, x.p⟩, ⟨110, if false = true then - rdig (s.extract x.a y) (s.extract x.a y).size else rdig (s.extract x.a y) (s.extract x.a y).size, ⟨#[]⟩, [], []⟩)) := by
    intro e0 e
    rw [R0.out, rwordAt_num _ _ _ _ _ (by rw [Hy.out]; rintro ⟨_, _, q | q⟩; exact e0 q; exact e q)]
    simp only [Hy.out]
  clear hb0
  generalize hwd : s.extract x.a y = word at *
  have Hwd : Hid _ := hwd
  clear hwd
  by_cases hT : word = trueS
  · have tT : (word.toList == [116, 114, 117, 101]) = true := by rw [true_beq]; exact decide_eq_true hT
    have Fin : Hid _ := Rt.out hT
    clear hT
    go_wp2_with fail
    go_ret
    refine .inl ⟨_, rfl, ?_, ?_⟩
    · rw [Fin.out]; exact leaf_true
    · rw [Fin.out]; exact ⟨HE.out, HPW.out, HKW.out⟩
  · have tT : (word.toList == [116, 114, 117, 101]) = false := by rw [true_beq]; exact decide_eq_false hT
    by_cases hF : word = falseS
    · have tF : (word.toList == [102, 97, 108, 115, 101]) = true := by rw [false_beq]; exact decide_eq_true hF
      have Fin : Hid _ := Rf.out hT hF
      clear hT hF
      go_wp2_with fail
      go_ret
      refine .inl ⟨_, rfl, ?_, ?_⟩
      · rw [Fin.out]; exact leaf_false
      · rw [Fin.out]; exact ⟨HE.out, HPW.out, HKW.out⟩
    · have tF : (word.toList == [102, 97, 108, 115, 101]) = false := by rw [false_beq]; exact decide_eq_false hF
      have R : Hid _ := Rn.out hT hF
      clear hT hF
      go_wp2_with fail
      refine (toNumber_any b s y word word false _ m hs (by have := Hsz.out; omega) hG C1.out C2.out hm4.out HPW.out).mono ?_
      rintro e w5 ⟨hN⟩
      rcases hN with ⟨n1, n2, rfl, n4, n5⟩ | ⟨n1, q, hq⟩ | ⟨n1, n2, q, hq⟩
      · have HN : Hid (rnumber word = true ∧ rdig word word.size ≤ 999999999999999 ∧ PC w5 b s y ∧ Kc b w4 w5) := ⟨n1, n2, n4, n5⟩
        clear n1 n2 n4 n5
        go_wp2_with fail
        go_ret
        refine .inl ⟨_, rfl, ?_, ?_⟩
        · rw [R.out, if_neg (by rw [HN.out.1]; simp)]
          exact leaf_num _
        · rw [R.out, if_neg (by rw [HN.out.1]; simp), if_neg (by have := HN.out.2.1; omega)]
          exact ⟨HE.out, HN.out.2.2.1, HKW.out.trans HN.out.2.2.2⟩
      · have he' := hq.e
        subst he'
        refine ⟨rfl, .inr ?_⟩
        rw [R.out, if_pos n1, rno_on _ _ _ (by exact HE.out)]
        rw [hL.out] at hq
        exact ⟨by simp, q, hq.trans HKW.out.kb⟩
      · have he' := hq.e
        subst he'
        refine ⟨rfl, .inr ?_⟩
        rw [R.out, if_neg (by rw [n1]; simp), if_pos n2, rno_on _ _ _ (by exact HE.out)]
        rw [hL.out] at hq
        exact ⟨by simp, q, hq.trans HKW.out.kb⟩


theorem readWord_any (b : Nat) (s : ByteArray) (x : St) (w : World) (m : Int) (hs : s.size ≤ 4000) (he : x.e = 0) (ha : x.a ≤ s.size) (hG : 1 < b)
    (hm : w.cell? ⟨1, 0, none⟩ = some (.int .i64 m)) (h : PC w b s x.a) :
    Calls Tryz.prog 138 #[.pointer (some ⟨b, 0, none⟩)] w fun e w' => WordP b s x w e w' := by
  by_cases h1 : bt s x.a = 43
  · exact readWord_plus b s x w m hs he ha hG hm h1 h
  · by_cases h2 : bt s x.a = 45
    · exact readWord_minus b s x w m hs he ha hG hm h2 h
    · exact readWord_plain b s x w m hs he ha hG hm ⟨h1, h2⟩ h
end Go.Proofs.YtdebjhdafnpfkaaGreatDoor

namespace Go.Proofs.YtdebjhdafnpfkaaGreatDoor
open Go.ChangeShapes Go.WideShapes Go.ChangeAt Go.RowKit
set_option linter.unusedVariables false
set_option linter.unusedSimpArgs false

theorem info_value : (Tryz.prog.info? 99).map (fun i => (i.zero, i.size, i.bytes)) = some (some .nilIface, 1, 16) := by kernel_rfl

/-- What the program's reader of values does, at a depth. -/
def PValF (f : St → St × V) (d nest b : Nat) (s : ByteArray) (m : Int) : Prop := ∀ (x : St) (w : World), x.e = 0 → x.a ≤ s.size → w.cell? ⟨1, 0, none⟩ = some (.int .i64 m) → PC w b s x.a →
  Calls Tryz.prog 122 #[.pointer (some ⟨b, 0, none⟩), .int .i64 nest] w fun e w' =>
    (∃ v, e = .returned v ∧ PVal d w.heap.size w'.heap.size w' v (f x).2 ∧ POk s b w w' (f x).1) ∨ PBad s b w e w' (f x).1
def PValC (d nest b : Nat) (s : ByteArray) (m : Int) : Prop := PValF (rval s d nest) d nest b s m
theorem PBad.same {s : ByteArray} {b : Nat} {w w' : World} {e : Ending} {y z : St} (h : PBad s b w e w' y) (he : z.e = y.e) (hp : z.p = y.p) : PBad s b w e w' z := by
  unfold PBad at *
  rw [he, hp]
  exact h
theorem cell_kc {b : Nat} {w w' : World} {m : Int} (h : w.cell? ⟨1, 0, none⟩ = some (.int .i64 m)) (hG : 1 < b) (k : Kc b w w') : w'.cell? ⟨1, 0, none⟩ = some (.int .i64 m) := by
  rw [k.kb.cell (lt_of_cell h) (by omega)]
  exact h
theorem PC.drew {w : World} {b : Nat} {s : ByteArray} {a : Nat} (h : PC w b s a) : PC w.drew b s a := h.drewN 1

set_option maxRecDepth 100000 in
set_option maxHeartbeats 4000000 in
theorem readList_any (d nest b : Nat) (s : ByteArray) (x : St) (m : Int) (w : World) (hs : s.size ≤ 4000) (he : x.e = 0) (hq : bt s x.a = 91) (hn6 : nest ≤ 6) (hG : 1 < b)
    (hV : PValC d nest b s m) (hm : w.cell? ⟨1, 0, none⟩ = some (.int .i64 m)) (h : PC w b s x.a) :
    Calls Tryz.prog 136 #[.pointer (some ⟨b, 0, none⟩), .int .i64 nest] w fun e w' =>
      (∃ lv, e = .returned lv ∧ PVal (d + 1) w.heap.size w'.heap.size w' (.iface 208 lv) (rlist s (rval s d nest) x).2 ∧ POk s b w w' (rlist s (rval s d nest) x).1) ∨ PBad s b w e w' (rlist s (rval s d nest) x).1 := by
  obtain ⟨i0, hi, hz0, hz1, hz2⟩ := info_parts info_value
  have ha := bt_lt' s x.a 91 hq (by decide)
  have h' : Hid (PC w b s x.a) := h
  have hltw := h.lt
  have HV : Hid (PValF (rval s d nest) d nest b s m) := hV
  have Hm : Hid _ := hm
  have hgf : Hid (GdF s (rval s d nest)) := gd_val d nest
  have M : Hid (rmust s x 91 = ⟨x.a + 1, x.e, x.p⟩) := rmust_hit s x 91 he (by decide) hq
  have R0 : Hid _ := rlist_eq s (rval s d nest) x
  have HE : Hid (x.e = 0) := he
  clear he hq h hV hm
  generalize rval s d nest = f at *
  go_enter Tryz.func136, Tryz.ntmps136
  go_wp2_with fail
  refine (pass_any b s x 91 _ hs HE.out (by omega) (by decide) h'.out).mono ?_
  rintro e w1 (⟨rfl, hok⟩ | ⟨hb, _⟩)
  · rw [M.out] at hok
    have hok' : Hid (POk s b w w1 ⟨x.a + 1, x.e, x.p⟩) := hok
    clear hok
    go_wp2_with fail
    refine (take_isBlankInList b s (x.a + 1) _ hs (by omega) hok'.out.pc).mono ?_
    rintro e w2 ⟨rfl, hp2, hk2⟩
    have HP2 : Hid (PC w2 b s (rblanks s ⟨x.a + 1, x.e, x.p⟩ true).a) := hp2
    have HK2 : Hid (Kc b w w2) := hok'.out.kc.trans hk2
    clear hp2 hk2 hok' h'
    have hz2w := HK2.out.kb.size
    go_wp2_with fail
    go_loopw [5] (fun u5 wr => ∃ (n : Nat) (y : St) (l : List V) (vs : List Value), Hid (rlistLoop s f (s.size + 3 - x.a) ⟨x.a + 1, x.e, x.p⟩ [] = rlistLoop s f (n + 1) y l) ∧ Hid (y.e = 0) ∧
        Hid (PC wr b s (rblanks s y true).a) ∧ Hid (Kc b w wr) ∧ y.a ≤ s.size ∧ s.size + 2 ≤ n + y.a ∧ vs.length ≤ y.a ∧ Hid (wr.ownsRow w.heap.size 99 1 u5 vs.length vs) ∧ Hid (PCh d wr w.heap.size u5 vs l)) (fun _ wr => s.size + 1 - atOf wr b)
    case atStart =>
      refine ⟨s.size + 2 - x.a, ⟨x.a + 1, x.e, x.p⟩, [], [], ?_, HE.out, HP2.out, HK2, ?_, ?_, Nat.zero_le _, World.ownsRow_nil _ _ _ _, PCh.nil _ _ _ _⟩
      · unfold Hid; rw [show s.size + 2 - x.a + 1 = s.size + 3 - x.a by omega]
      · show x.a + 1 ≤ _; omega
      · show s.size + 2 ≤ s.size + 2 - x.a + (x.a + 1); omega
    case round =>
      clear M HP2 HK2
      obtain ⟨n, y, l, vs, hr, hy0, h1, hk, hy1, hn, hvs, hown, hch⟩ := hrel
      have hz1' : (rblanks s y true).a ≤ s.size := scan_le _ _ _ hy1
      have hz2' : y.a ≤ (rblanks s y true).a := scan_ge _ _ _
      obtain ⟨ad0, cap0, hv0⟩ := ownsS_form hown.out
      subst hv0
      by_cases hd : bt s (rblanks s y true).a = 93
      · have t0 : ((bt s (rblanks s y true).a : Int) != 93) = false := by simp; omega
        have D : Hid (rlistLoop s f (n + 1) y l = (rblanks s y true, l)) := listLoop_end s f n y l hy0.out hd
        clear hd
        generalize hzz : rblanks s y true = z at *
        have hze : Hid (z.e = 0) := by unfold Hid; rw [← hzz]; exact hy0.out
        clear hzz
        go_wp2_with fail
        refine (peek_any b s z.a _ hs hz1' h1.out).mono ?_
        rintro e w3 ⟨rfl, k3, rfl⟩
        go_wp2_with fail
        refine (pass_any b s z 93 _ hs hze.out hz1' (by decide) (h1.out.drewN k3)).mono ?_
        have Fin : Hid (rlist s f x = (rmust s z 93, ⟨108, 0, ⟨#[]⟩, l, []⟩)) := by
          unfold Hid
          rw [R0.out, hr.out, D.out]
        rintro e w4 (⟨rfl, hok⟩ | hbad)
        · have hok' : Hid (POk s b (wr.drewN k3) w4 (rmust s z 93)) := hok
          clear hok
          go_wp2_with fail
          go_ret
          refine .inl ⟨_, rfl, ?_, ?_⟩
          · rw [Fin.out]
            have hkk : Kb b wr w4 := ((Kb.refl _ _).drewN k3).trans hok'.out.kc.kb
            exact (hch.out.kb hkk hltw).list rfl (ownsS_kc hown.out hkk hltw)
          · rw [Fin.out]
            exact ⟨hok'.out.e, hok'.out.pc, (hk.out.drewN k3).trans hok'.out.kc⟩
        · have hb := hbad.1
          obtain ⟨q, hq⟩ := hbad.2
          have he' := hq.e
          subst he'
          refine ⟨rfl, .inr ?_⟩
          rw [Fin.out]
          exact ⟨hb, q, hq.trans (hk.out.kb.drewN k3)⟩
      · have t0 : ((bt s (rblanks s y true).a : Int) != 93) = true := by simp; omega
        have D1 : Hid ((f (rblanks s y true)).1.e ≠ 0 → rlistLoop s f (n + 1) y l = (rblanks s (f (rblanks s y true)).1 true, l ++ [(f (rblanks s y true)).2])) := listLoop_bad s f n y l hy0.out hd
        have D2 : Hid ((f (rblanks s y true)).1.e = 0 → bt s (rblanks s (f (rblanks s y true)).1 true).a = 44 → rlistLoop s f (n + 1) y l = rlistLoop s f n ⟨(rblanks s (f (rblanks s y true)).1 true).a + 1, (f (rblanks s y true)).1.e, (f (rblanks s y true)).1.p⟩ (l ++ [(f (rblanks s y true)).2])) := listLoop_more s f n y l hy0.out hd
        have D3 : Hid ((f (rblanks s y true)).1.e = 0 → bt s (rblanks s (f (rblanks s y true)).1 true).a ≠ 44 → rlistLoop s f (n + 1) y l = (rblanks s (f (rblanks s y true)).1 true, l ++ [(f (rblanks s y true)).2])) := listLoop_last s f n y l hy0.out hd
        clear hd
        generalize hzz : rblanks s y true = z at *
        have hze : Hid (z.e = 0) := by unfold Hid; rw [← hzz]; exact hy0.out
        clear hzz
        have hgd := hgf.out z ⟨by omega, fun _ => hz1'⟩
        go_wp2_with fail
        refine (peek_any b s z.a _ hs hz1' h1.out).mono ?_
        rintro e w3 ⟨rfl, k3, rfl⟩
        go_wp2_with fail
        refine (HV.out z _ hze.out hz1' (cell_kc (b := b) Hm.out hG (hk.out.drewN k3)) (h1.out.drewN k3)).mono ?_
        rintro e w4 (⟨v, rfl, hpv, hok⟩ | hbad)
        · obtain ⟨vt, vu, rfl⟩ := hpv.iface
          have hpv' : Hid (PVal d wr.heap.size w4.heap.size w4 (.iface vt vu) (f z).2) := hpv
          have hok' : Hid (POk s b (wr.drewN k3) w4 (f z).1) := hok
          have hgd1 : (f z).1.a ≤ s.size := hgd.1.2 hok.e
          have hgd2 := hgd.2
          have hfe : Hid ((f z).1.e = 0) := hok.e
          have hlt4 := hok.pc.lt
          have hkr : Hid (Kb b wr w4) := ((Kb.refl _ _).drewN k3).trans hok.kc.kb
          clear hpv hok hgd
          have hzr := hk.out.kb.size
          have hz4 := hkr.out.size
          have hown4 : Hid (w4.ownsRow w.heap.size 99 1 (.slice ad0 vs.length cap0) vs.length vs) := ownsS_kc hown.out hkr.out hltw
          have hch4 : Hid (PCh d w4 w.heap.size (.slice ad0 vs.length cap0) (vs ++ [Value.iface vt vu]) (l ++ [(f z).2])) :=
            (hch.out.kb hkr.out hltw).snoc hzr (Nat.le_refl _) (fun k e => (hown.out.lt k e).2) hpv'.out
          go_wp2_with (at_builtin; refine wpList_append_own_at _ rfl (.tmp 19) (.tmp 23) 208 rfl w.heap.size 99 i0 .nilIface 1 16 Tryz.underlying208 hi hz0 hz1 hz2 rfl (by decide) _ _ _ rfl (hown4.out.alloc _) ⟨w4.heap.size, 0, none⟩ 1 1 [.iface vt vu] rfl rfl (cell_one_new _ _ _) (by intro u hu; simp at hu; subst hu; rfl) (by unfold maxLen; omega) (by omega) (by simp; omega) ?_; intro v1 w5 hown5 hgrow5 hnil5 hat5; refine Hid.out ?_)
          have hch5 : Hid (PCh d w5 w.heap.size v1 (vs ++ [Value.iface vt vu]) (l ++ [(f z).2])) := (hch4.out.alloc _).grow hgrow5 hat5
          have hp5 : Hid (PC w5 b s (f z).1.a) := (hok'.out.pc.alloc _).grown hgrow5 (ownsS_ne hown4.out hltw)
          have hk5 : Hid (Kc b w w5) := (((hk.out.drewN k3).trans hok'.out.kc).alloc hlt4 _).grown hltw hgrow5 (fun k hk => (hown4.out.lt k hk).1)
          have hown5' : Hid (w5.ownsRow w.heap.size 99 1 v1 (vs ++ [Value.iface vt vu]).length (vs ++ [Value.iface vt vu])) := by
            unfold Hid
            simpa using hown5
          clear hown5 hgrow5 hnil5 hat5 hown4 hch4 hown hch
          obtain ⟨ad5, cap5, hv5⟩ := ownsS_form hown5'.out
          subst hv5
          have hpl : (vs ++ [Value.iface vt vu]).length = vs.length + 1 := by simp
          have Hpl : Hid _ := hpl
          clear hpl
          generalize (vs ++ [Value.iface vt vu]) = vs2 at *
          unfold Hid
          go_wp2_with fail
          refine (take_isBlankInList b s (f z).1.a _ hs hgd1 hp5.out).mono ?_
          rintro e w6 ⟨rfl, hp6, hk6⟩
          have HP6 : Hid (PC w6 b s (rblanks s (f z).1 true).a) := hp6
          have HK6 : Hid (Kc b w5 w6) := hk6
          clear hp6 hk6
          have hy6 : (rblanks s (f z).1 true).a ≤ s.size := scan_le _ _ _ hgd1
          have hy6' : (f z).1.a ≤ (rblanks s (f z).1 true).a := scan_ge _ _ _
          have hfe6 : Hid ((rblanks s (f z).1 true).e = 0) := hfe.out
          by_cases hc : bt s (rblanks s (f z).1 true).a = 44
          · have t1 : ((bt s (rblanks s (f z).1 true).a : Int) != 44) = false := by simp; omega
            have DD : Hid _ := D2.out hfe.out hc
            have Hc : Hid (bt s (rblanks s (f z).1 true).a = 44) := hc
            clear hc
            go_wp2_with fail
            refine (peek_any b s (rblanks s (f z).1 true).a _ hs hy6 HP6.out).mono ?_
            rintro e w7 ⟨rfl, k7, rfl⟩
            have hl7 : (rblanks s (f z).1 true).a < s.size := bt_lt' s _ 44 Hc.out (by decide)
            go_wp2_with fail
            refine (step_any b s (rblanks s (f z).1 true).a _ hs hl7 (HP6.out.drewN k7)).mono ?_
            rintro e w8 ⟨rfl, hp8, hk8⟩
            have HP8 : Hid (PC w8 b s ((rblanks s (f z).1 true).a + 1)) := hp8
            have HK8 : Hid (Kc b w6 w8) := ((Kc.refl _ _).drewN k7).trans hk8
            clear hp8 hk8
            go_wp2_with fail
            refine (take_isBlankInList b s ((rblanks s (f z).1 true).a + 1) _ hs (by omega) HP8.out).mono ?_
            rintro e w9 ⟨rfl, hp9, hk9⟩
            have HP9 : Hid (PC w9 b s (rblanks s ⟨(rblanks s (f z).1 true).a + 1, (f z).1.e, (f z).1.p⟩ true).a) := hp9
            have HK9 : Hid (Kc b w5 w9) := (HK6.out.trans HK8.out).trans hk9
            clear hp9 hk9
            have hsg : (rblanks s (f z).1 true).a + 1 ≤ (rblanks s ⟨(rblanks s (f z).1 true).a + 1, (f z).1.e, (f z).1.p⟩ true).a := scan_ge _ _ _
            obtain ⟨n', hn'⟩ : ∃ n', n = n' + 1 := ⟨n - 1, by omega⟩
            subst hn'
            go_wp2_with fail
            go_roundw
            case rel =>
              refine ⟨n', ⟨(rblanks s (f z).1 true).a + 1, (f z).1.e, (f z).1.p⟩, _, vs2, ?_, hfe.out, HP9, hk5.out.trans HK9.out, ?_, ?_, ?_, ownsS_kc hown5'.out HK9.out.kb hltw, hch5.out.kb HK9.out.kb hltw⟩
              · unfold Hid; rw [hr.out, DD.out]
              · show (rblanks s (f z).1 true).a + 1 ≤ _; omega
              · show s.size + 2 ≤ n' + ((rblanks s (f z).1 true).a + 1); omega
              · show vs2.length ≤ (rblanks s (f z).1 true).a + 1; rw [Hpl.out]; omega
            case measure =>
              rw [HP9.out.atOf, h1.out.atOf]
              omega
          · have t1 : ((bt s (rblanks s (f z).1 true).a : Int) != 44) = true := by simp; omega
            have DD : Hid _ := D3.out hfe.out hc
            clear hc
            have Fin : Hid (rlist s f x = (rmust s (rblanks s (f z).1 true) 93, ⟨108, 0, ⟨#[]⟩, l ++ [(f z).2], []⟩)) := by
              unfold Hid
              rw [R0.out, hr.out, DD.out]
            go_wp2_with fail
            refine (peek_any b s (rblanks s (f z).1 true).a _ hs hy6 HP6.out).mono ?_
            rintro e w7 ⟨rfl, k7, rfl⟩
            go_wp2_with fail
            refine (pass_any b s (rblanks s (f z).1 true) 93 _ hs hfe6.out hy6 (by decide) (HP6.out.drewN k7)).mono ?_
            rintro e w8 (⟨rfl, hok8⟩ | hbad)
            · have hok8' : Hid (POk s b (w6.drewN k7) w8 (rmust s (rblanks s (f z).1 true) 93)) := hok8
              clear hok8
              go_wp2_with fail
              go_ret
              refine .inl ⟨_, rfl, ?_, ?_⟩
              · rw [Fin.out]
                have hkk : Kb b w5 w8 := (HK6.out.kb.drewN k7).trans hok8'.out.kc.kb
                exact (hch5.out.kb hkk hltw).list rfl (ownsS_kc hown5'.out hkk hltw)
              · rw [Fin.out]
                exact ⟨hok8'.out.e, hok8'.out.pc, (hk5.out.trans (HK6.out.drewN k7)).trans hok8'.out.kc⟩
            · have hb := hbad.1
              obtain ⟨q, hq⟩ := hbad.2
              have he' := hq.e
              subst he'
              refine ⟨rfl, .inr ?_⟩
              rw [Fin.out]
              exact ⟨hb, q, hq.trans (hk5.out.kb.trans (HK6.out.kb.drewN k7))⟩
        · have hb := hbad.1
          obtain ⟨q, hq⟩ := hbad.2
          have he' := hq.e
          subst he'
          refine ⟨rfl, .inr ?_⟩
          have e1 : (rlist s f x).1 = rblanks s (f z).1 true := by
            rw [R0.out, hr.out, D1.out hb]
            exact rmust_off _ _ _ hb
          rw [e1]
          exact (PBad.same ⟨hb, q, hq.trans (hk.out.kb.drewN k3)⟩ rfl rfl)
  · rw [M.out] at hb
    exact absurd HE.out hb
end Go.Proofs.YtdebjhdafnpfkaaGreatDoor
