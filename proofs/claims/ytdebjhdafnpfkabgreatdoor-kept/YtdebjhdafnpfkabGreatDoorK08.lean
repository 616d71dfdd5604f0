import Derived.Test.YtdebjhdafnpfkabGreatDoorK04
import Derived.Test.YtdebjhdafnpfkabGreatDoorK07
namespace Go.Proofs.YtdebjhdafnpfkabGreatDoor
open Go.ChangeShapes Go.WideShapes Go.ChangeAt Go.RowKit
set_option linter.unusedVariables false
set_option linter.unusedSimpArgs false
theorem ownsS_frame {sz : Nat} {w w' : World} {base : Nat} {e : TypeId} {v : Value} {n : Nat} {xs : List Value} (h : w.ownsRow base e sz v n xs) (hb : ∀ k, base ≤ k → k < w.heap.size → v.ownBlock = some k → w'.heap[k]? = w.heap[k]?) : w'.ownsRow base e sz v n xs := by
  refine ⟨h.1, ?_⟩
  rcases h.2 with hn | ⟨g, cap, cur, rfl, hg, hgg, rest⟩
  · exact .inl hn
  · exact .inr ⟨g, cap, cur, rfl, hg, (hb g hg (Array.getElem?_eq_some_iff.1 hgg).1 rfl).trans hgg, rest⟩
theorem ownsS_form {sz : Nat} {w : World} {base : Nat} {e : TypeId} {v : Value} {n : Nat} {xs : List Value} (h : w.ownsRow base e sz v n xs) : ∃ ad cap, v = .slice ad n cap := by
  rcases h.2 with ⟨rfl, rfl⟩ | ⟨g, cap, cur, rfl, _⟩
  · exact ⟨_, _, rfl⟩
  · exact ⟨_, _, rfl⟩
theorem ownsS_ne {sz : Nat} {b : Nat} {w : World} {base : Nat} {e : TypeId} {v : Value} {n : Nat} {xs : List Value} (h : w.ownsRow base e sz v n xs) (hb : b < base) : some b ≠ v.ownBlock := fun h' => by
  have := (h.lt b h'.symm).1
  omega
theorem ownsS_kc {sz b : Nat} {w w' : World} {base : Nat} {e : TypeId} {v : Value} {n : Nat} {xs : List Value} (h : w.ownsRow base e sz v n xs) (hk : Kb b w w') (hb : b < base) : w'.ownsRow base e sz v n xs :=
  ownsS_frame h (fun k h1 h2 _ => hk.block k h2 (by omega))
/-- A row, in a stretch of blocks. -/
def RowS (sz : Nat) (w : World) (lo hi : Nat) (e : TypeId) (v : Value) (n : Nat) (xs : List Value) : Prop := w.ownsRow lo e sz v n xs ∧ ∀ k, v.ownBlock = some k → k < hi
theorem RowS.frame {sz : Nat} {w w' : World} {lo hi : Nat} {e : TypeId} {v : Value} {n : Nat} {xs : List Value} (h : RowS sz w lo hi e v n xs) (hb : ∀ k, lo ≤ k → k < hi → w'.heap[k]? = w.heap[k]?) : RowS sz w' lo hi e v n xs :=
  ⟨ownsS_frame h.1 (fun k h1 _ h3 => hb k h1 (h.2 k h3)), h.2⟩
theorem RowS.wide {sz : Nat} {w : World} {lo hi lo' hi' : Nat} {e : TypeId} {v : Value} {n : Nat} {xs : List Value} (h : RowS sz w lo hi e v n xs) (h1 : lo' ≤ lo) (h2 : hi ≤ hi') : RowS sz w lo' hi' e v n xs :=
  ⟨⟨h.1.1, h.1.2.elim (fun z => Or.inl z) (fun ⟨g, cap, cur, a, b, c⟩ => Or.inr ⟨g, cap, cur, a, Nat.le_trans h1 b, c⟩)⟩, fun k hk => Nat.lt_of_lt_of_le (h.2 k hk) h2⟩
theorem RowS.of {sz : Nat} {w : World} {base : Nat} {e : TypeId} {v : Value} {n : Nat} {xs : List Value} (h : w.ownsRow base e sz v n xs) : RowS sz w base w.heap.size e v n xs := ⟨h, fun k hk => (h.lt k hk).2⟩
/-- A group's members, cell by cell. -/
def mem2 : List ByteArray → List Value → List Value
  | m :: ms, v :: vs => .string m :: v :: mem2 ms vs
  | _, _ => []
theorem mem2_snoc (m : ByteArray) (v : Value) : ∀ (ms : List ByteArray) (vs : List Value), ms.length = vs.length → mem2 (ms ++ [m]) (vs ++ [v]) = mem2 ms vs ++ [.string m, v]
  | [], [], _ => rfl
  | a :: ms, b :: vs, h => by
    simp only [List.length_cons, Nat.add_right_cancel_iff] at h
    show .string a :: b :: mem2 (ms ++ [m]) (vs ++ [v]) = _
    rw [mem2_snoc m v ms vs h]
    rfl
  | [], _ :: _, h => by simp at h
  | _ :: _, [], h => by simp at h
theorem mem2_get : ∀ (ms : List ByteArray) (vs : List Value) (i : Nat) (m : ByteArray) (v : Value), ms[i]? = some m → vs[i]? = some v → (mem2 ms vs)[2 * i]? = some (.string m) ∧ (mem2 ms vs)[2 * i + 1]? = some v
  | a :: ms, b :: vs, 0, m, v, h1, h2 => by
    simp only [List.getElem?_cons_zero, Option.some.injEq] at h1 h2
    subst h1 h2
    exact ⟨rfl, rfl⟩
  | a :: ms, b :: vs, i + 1, m, v, h1, h2 => by
    simp only [List.getElem?_cons_succ] at h1 h2
    have := mem2_get ms vs i m v h1 h2
    exact this
  | [], _, i, m, v, h1, _ => by simp at h1
  | _ :: _, [], i, m, v, _, h2 => by simp at h2
/-- A value of the program's, as it lies in a stretch of blocks. -/
def PVal : Nat → Nat → Nat → World → Value → V → Prop
  | 0, _, _, _, _, _ => False
  | d + 1, lo, hi, w, v, x =>
    (x.k = 115 ∧ v = .iface 176 (.string x.s)) ∨ (x.k = 110 ∧ v = .iface 197 (.int .i64 x.n)) ∨
    (x.k = 98 ∧ (x.n = 1 ∧ v = .iface 196 (.bool true) ∨ x.n = 0 ∧ v = .iface 196 (.bool false))) ∨
    (x.k = 108 ∧ ∃ lv vs, v = .iface 164 lv ∧ RowS 1 w lo hi 66 lv x.l.length vs ∧ ∀ (i : Nat) (u : Value) (y : V), vs[i]? = some u → x.l[i]? = some y → PVal d lo hi w u y) ∨
    (x.k = 103 ∧ ∃ gv vs, v = .iface 180 gv ∧ vs.length = x.l.length ∧ x.m.length = x.l.length ∧ RowS 2 w lo hi 195 gv x.l.length (mem2 x.m vs) ∧ ∀ (i : Nat) (u : Value) (y : V), vs[i]? = some u → x.l[i]? = some y → PVal d lo hi w u y)
theorem PVal.frame : ∀ {d lo hi : Nat} {w w' : World} {v : Value} {x : V}, PVal d lo hi w v x → (∀ k, lo ≤ k → k < hi → w'.heap[k]? = w.heap[k]?) → PVal d lo hi w' v x
  | 0, _, _, _, _, _, _, h, _ => h.elim
  | d + 1, lo, hi, w, w', v, x, h, hb => by
    rcases h with h | h | h | ⟨h1, lv, vs, h2, h3, h4⟩ | ⟨h1, gv, vs, h2, h3, h4, h5, h6⟩
    · exact .inl h
    · exact .inr (.inl h)
    · exact .inr (.inr (.inl h))
    · exact .inr (.inr (.inr (.inl ⟨h1, lv, vs, h2, h3.frame hb, fun i u y hu hy => (h4 i u y hu hy).frame hb⟩)))
    · exact .inr (.inr (.inr (.inr ⟨h1, gv, vs, h2, h3, h4, h5.frame hb, fun i u y hu hy => (h6 i u y hu hy).frame hb⟩)))
theorem PVal.wide : ∀ {d lo hi lo' hi' : Nat} {w : World} {v : Value} {x : V}, PVal d lo hi w v x → lo' ≤ lo → hi ≤ hi' → PVal d lo' hi' w v x
  | 0, _, _, _, _, _, _, _, h, _, _ => h.elim
  | d + 1, lo, hi, lo', hi', w, v, x, h, a, b => by
    rcases h with h | h | h | ⟨h1, lv, vs, h2, h3, h4⟩ | ⟨h1, gv, vs, h2, h3, h4, h5, h6⟩
    · exact .inl h
    · exact .inr (.inl h)
    · exact .inr (.inr (.inl h))
    · exact .inr (.inr (.inr (.inl ⟨h1, lv, vs, h2, h3.wide a b, fun i u y hu hy => (h4 i u y hu hy).wide a b⟩)))
    · exact .inr (.inr (.inr (.inr ⟨h1, gv, vs, h2, h3, h4, h5.wide a b, fun i u y hu hy => (h6 i u y hu hy).wide a b⟩)))
theorem PVal.iface {d lo hi : Nat} {w : World} {v : Value} {x : V} (h : PVal d lo hi w v x) : ∃ t u, v = .iface t u := by
  cases d with
  | zero => exact h.elim
  | succ d =>
    rcases h with ⟨_, h⟩ | ⟨_, h⟩ | ⟨_, ⟨_, h⟩ | ⟨_, h⟩⟩ | ⟨h1, lv, vs, h, h3, h4⟩ | ⟨h1, gv, vs, h, h3, h4, h5, h6⟩
    · exact ⟨_, _, h⟩
    · exact ⟨_, _, h⟩
    · exact ⟨_, _, h⟩
    · exact ⟨_, _, h⟩
    · exact ⟨_, _, h⟩
    · exact ⟨_, _, h⟩
/-- The values of a list or a group that grows, each in a stretch of its own, off the row. -/
def PCh (d : Nat) (w : World) (q : Nat) (lv : Value) (vs : List Value) (l : List V) : Prop :=
  vs.length = l.length ∧ ∀ (i : Nat) (v : Value) (u : V), vs[i]? = some v → l[i]? = some u →
    ∃ lo hi, q ≤ lo ∧ hi ≤ w.heap.size ∧ (∀ k, lv.ownBlock = some k → ¬ (lo ≤ k ∧ k < hi)) ∧ PVal d lo hi w v u
theorem PCh.nil (d : Nat) (w : World) (q : Nat) (lv : Value) : PCh d w q lv [] [] := ⟨rfl, fun i p u h => by simp at h⟩
theorem PCh.frame {d : Nat} {w w' : World} {q : Nat} {lv lv' : Value} {vs : List Value} {l : List V} (h : PCh d w q lv vs l) (hz : w.heap.size ≤ w'.heap.size)
    (hb : ∀ k, q ≤ k → k < w.heap.size → lv.ownBlock ≠ some k → w'.heap[k]? = w.heap[k]?)
    (hl : lv'.ownBlock = lv.ownBlock ∨ ∀ k, lv'.ownBlock = some k → w.heap.size ≤ k) : PCh d w' q lv' vs l := by
  refine ⟨h.1, fun i p u hp hu => ?_⟩
  obtain ⟨lo, hi, h1, h2, h3, h4⟩ := h.2 i p u hp hu
  refine ⟨lo, hi, h1, Nat.le_trans h2 hz, fun k hk => ?_, h4.frame (fun k k1 k2 => hb k (by omega) (by omega) (fun e => h3 k e ⟨k1, k2⟩))⟩
  rcases hl with e | e
  · exact h3 k (e ▸ hk)
  · have := e k hk
    omega
theorem PCh.kb {b d : Nat} {w w' : World} {q : Nat} {lv : Value} {vs : List Value} {l : List V} (h : PCh d w q lv vs l) (hk : Kb b w w') (hb : b < q) : PCh d w' q lv vs l :=
  h.frame hk.size (fun k k1 k2 _ => hk.block k k2 (by omega)) (.inl rfl)
theorem PCh.alloc {d : Nat} {w : World} {q : Nat} {lv : Value} {vs : List Value} {l : List V} (h : PCh d w q lv vs l) (o : Obj) : PCh d (w.alloc o) q lv vs l :=
  h.frame (by simp) (fun k _ k2 _ => Below.heap_alloc _ _ _ k2) (.inl rfl)
theorem PCh.grow {d : Nat} {w w' : World} {q : Nat} {lv v : Value} {vs : List Value} {l : List V} (h : PCh d w q lv vs l) (hg : w.grownBy w' lv.ownBlock) (ha : v.ownBlock = lv.ownBlock ∨ v.ownBlock = some w.heap.size) : PCh d w' q v vs l :=
  h.frame hg.size (fun k _ k2 k3 => hg.block k k2 (fun e => k3 e.symm)) (ha.elim (fun e => .inl e) (fun e => .inr (fun k hk => by rw [e] at hk; cases hk; exact Nat.le_refl _)))
theorem PCh.snoc {d : Nat} {w : World} {q : Nat} {lv : Value} {vs : List Value} {l : List V} {v : Value} {u : V} (h : PCh d w q lv vs l) {lo hi : Nat} (h1 : q ≤ lo) (h2 : hi ≤ w.heap.size)
    (h3 : ∀ k, lv.ownBlock = some k → k < lo) (hr : PVal d lo hi w v u) : PCh d w q lv (vs ++ [v]) (l ++ [u]) := by
  refine ⟨by simp [h.1], fun i p' u' hp hu => ?_⟩
  by_cases hi' : i < vs.length
  · rw [List.getElem?_append_left hi'] at hp
    rw [List.getElem?_append_left (by rw [← h.1]; exact hi')] at hu
    exact h.2 i p' u' hp hu
  · rw [List.getElem?_append_right (by omega)] at hp
    rw [List.getElem?_append_right (by rw [← h.1]; omega)] at hu
    rw [h.1] at hp
    have e : i - l.length = 0 := by
      have := (List.getElem?_eq_some_iff.1 hp).1
      simp at this
      omega
    rw [e] at hp hu
    simp only [List.getElem?_cons_zero, Option.some.injEq] at hp hu
    subst hp hu
    exact ⟨lo, hi, h1, h2, fun k hk hc => by have := h3 k hk; omega, hr⟩
theorem PCh.list {d q hi : Nat} {w : World} {lv : Value} {vs : List Value} {l : List V} (hc : PCh d w q lv vs l) (h3 : hi = w.heap.size) (ho : w.ownsRow q 66 1 lv vs.length vs) :
    PVal (d + 1) q hi w (.iface 164 lv) ⟨108, 0, ⟨#[]⟩, l, []⟩ := by
  subst h3
  rw [hc.1] at ho
  refine .inr (.inr (.inr (.inl ⟨rfl, lv, vs, rfl, RowS.of ho, fun i u y hu hy => ?_⟩)))
  obtain ⟨lo', hi', a1, a2, _, a4⟩ := hc.2 i u y hu hy
  exact a4.wide a1 a2
theorem PCh.group {d q hi : Nat} {w : World} {lv : Value} {vs : List Value} {l : List V} {m : List ByteArray} (hc : PCh d w q lv vs l) (h3 : hi = w.heap.size) (hm : m.length = vs.length) (ho : w.ownsRow q 195 2 lv vs.length (mem2 m vs)) :
    PVal (d + 1) q hi w (.iface 180 lv) ⟨103, 0, ⟨#[]⟩, l, m⟩ := by
  subst h3
  rw [hc.1] at ho
  refine .inr (.inr (.inr (.inr ⟨rfl, lv, vs, rfl, hc.1, hm.trans hc.1, RowS.of ho, fun i u y hu hy => ?_⟩)))
  obtain ⟨lo', hi', a1, a2, _, a4⟩ := hc.2 i u y hu hy
  exact a4.wide a1 a2
/-- No memory behind it. -/
def PLeaf (v : Value) (x : V) : Prop := ∀ d lo hi w, PVal (d + 1) lo hi w v x
theorem leaf_text (t : ByteArray) : PLeaf (.iface 176 (.string t)) ⟨115, 0, t, [], []⟩ := fun d lo hi w => .inl ⟨rfl, rfl⟩
theorem leaf_num (n : Int) : PLeaf (.iface 197 (.int .i64 n)) ⟨110, n, ⟨#[]⟩, [], []⟩ := fun d lo hi w => .inr (.inl ⟨rfl, rfl⟩)
theorem leaf_true : PLeaf (.iface 196 (.bool true)) ⟨98, 1, ⟨#[]⟩, [], []⟩ := fun d lo hi w => .inr (.inr (.inl ⟨rfl, .inl ⟨rfl, rfl⟩⟩))
theorem leaf_false : PLeaf (.iface 196 (.bool false)) ⟨98, 0, ⟨#[]⟩, [], []⟩ := fun d lo hi w => .inr (.inr (.inl ⟨rfl, .inr ⟨rfl, rfl⟩⟩))
end Go.Proofs.YtdebjhdafnpfkabGreatDoor
