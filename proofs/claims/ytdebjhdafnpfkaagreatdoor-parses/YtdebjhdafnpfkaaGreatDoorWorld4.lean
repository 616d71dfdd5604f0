import Derived.Test.YtdebjhdafnpfkaaGreatDoorWorld3
namespace Go.Proofs.YtdebjhdafnpfkaaGreatDoor
open Go.ChangeShapes Go.WideShapes Go.ChangeAt Go.RowKit
set_option linter.unusedVariables false

/-- An item's five cells, and what they lead to. -/
def RIt (lo hi : Nat) (w : World) (c : List Value) (t : It) : Prop :=
  ∃ pv fv vv, c = [.int .u8 t.k, pv, fv, vv, .string t.rem] ∧ RowIn w lo hi 9 pv (t.path.map .string) ∧ RowIn w lo hi 9 fv (t.full.map .string) ∧
    (t.k = 61 → ∃ q, vv = ptr q ∧ RVal 7 lo hi w q t.v) ∧ (t.k ≠ 61 → vv = .pointer none) ∧ t.path.length ≤ 4001 ∧ t.full.length ≤ 8002
theorem RIt.frame {lo hi : Nat} {w w' : World} {c : List Value} {t : It} (h : RIt lo hi w c t) (hb : ∀ k, lo ≤ k → k < hi → w'.heap[k]? = w.heap[k]?) : RIt lo hi w' c t := by
  obtain ⟨pv, fv, vv, h1, h2, h3, h4, h5, h6, h7⟩ := h
  exact ⟨pv, fv, vv, h1, h2.frame hb, h3.frame hb, fun e => by obtain ⟨q, a, r⟩ := h4 e; exact ⟨q, a, r.frame hb⟩, h5, h6, h7⟩
theorem RIt.len {lo hi : Nat} {w : World} {c : List Value} {t : It} (h : RIt lo hi w c t) : c.length = 5 := by
  obtain ⟨pv, fv, vv, h1, _⟩ := h
  rw [h1]
  rfl

/-- All that was read so far, as it lies. -/
def Its (w : World) (b : Nat) (it : Value) (cs : List (List Value)) (items : List It) : Prop :=
  cs.length = items.length ∧ w.ownsRow (b + 1) 72 5 it items.length cs.flatten ∧ ∀ (i : Nat) (c : List Value) (t : It), cs[i]? = some c → items[i]? = some t →
    ∃ lo hi, b < lo ∧ hi ≤ w.heap.size ∧ (∀ k, it.ownBlock = some k → ¬ (lo ≤ k ∧ k < hi)) ∧ RIt lo hi w c t

theorem owns5_frame {w w' : World} {base : Nat} {e : TypeId} {v : Value} {n : Nat} {xs : List Value} (h : w.ownsRow base e 5 v n xs) (hb : ∀ k, base ≤ k → k < w.heap.size → w'.heap[k]? = w.heap[k]?) : w'.ownsRow base e 5 v n xs := by
  refine ⟨h.1, ?_⟩
  rcases h.2 with hn | ⟨g, cap, cur, rfl, hg, hgg, rest⟩
  · exact .inl hn
  · exact .inr ⟨g, cap, cur, rfl, hg, (hb g hg (Array.getElem?_eq_some_iff.1 hgg).1).trans hgg, rest⟩
theorem owns5_form {w : World} {base : Nat} {e : TypeId} {v : Value} {n : Nat} {xs : List Value} (h : w.ownsRow base e 5 v n xs) : ∃ ad cap, v = .slice ad n cap := by
  rcases h.2 with ⟨rfl, rfl⟩ | ⟨g, cap, cur, rfl, _⟩
  · exact ⟨_, _, rfl⟩
  · exact ⟨_, _, rfl⟩
theorem owns5_some {w : World} {base : Nat} {e : TypeId} {ad : Option Addr} {n cap : Nat} {xs : List Value} (h : w.ownsRow base e 5 (.slice ad n cap) n xs) (hn : 0 < n) : ∃ g, ad = some ⟨g, 0, none⟩ ∧ base ≤ g ∧ g < w.heap.size := by
  rcases h.2 with ⟨h1, h2⟩ | ⟨g, c, cur, h1, h2, h3, _⟩
  · omega
  · simp only [Value.slice.injEq] at h1
    exact ⟨g, h1.1, h2, (Array.getElem?_eq_some_iff.1 h3).1⟩
theorem Its.frame {w w' : World} {b : Nat} {it : Value} {cs : List (List Value)} {items : List It} (h : Its w b it cs items) (hz : w.heap.size ≤ w'.heap.size) (hb : ∀ k, b < k → k < w.heap.size → w'.heap[k]? = w.heap[k]?) : Its w' b it cs items := by
  refine ⟨h.1, owns5_frame h.2.1 (fun k h1 h2 => hb k (by omega) h2), fun i c t hc ht => ?_⟩
  obtain ⟨lo, hi, a1, a2, a3, a4⟩ := h.2.2 i c t hc ht
  exact ⟨lo, hi, a1, Nat.le_trans a2 hz, a3, a4.frame (fun k k1 k2 => hb k (by omega) (by omega))⟩
theorem Its.kb {b : Nat} {w w' : World} {it : Value} {cs : List (List Value)} {items : List It} (h : Its w b it cs items) (hk : Kb b w w') : Its w' b it cs items :=
  h.frame hk.size (fun k h1 h2 => hk.block k h2 (by omega))
theorem Its.nil (w : World) (b : Nat) : Its w b (.slice none 0 0) [] [] := ⟨rfl, World.ownsRow_nil _ _ _ _, fun i c t h => by simp at h⟩
theorem flatten_get : ∀ (cs : List (List Value)), (∀ c ∈ cs, c.length = 5) → ∀ (i : Nat) (c : List Value), cs[i]? = some c → ∀ j, j < 5 → cs.flatten[5 * i + j]? = c[j]?
  | [], _, i, c, h, j, hj => by simp at h
  | a :: r, hl, 0, c, h, j, hj => by
    simp only [List.getElem?_cons_zero, Option.some.injEq] at h
    subst h
    simp only [List.flatten_cons, Nat.mul_zero, Nat.zero_add]
    rw [List.getElem?_append_left (by rw [hl a (by simp)]; exact hj)]
  | a :: r, hl, i + 1, c, h, j, hj => by
    simp only [List.getElem?_cons_succ] at h
    have ha : a.length = 5 := hl a (by simp)
    simp only [List.flatten_cons]
    rw [List.getElem?_append_right (by omega), ha, show 5 * (i + 1) + j - 5 = 5 * i + j by omega]
    exact flatten_get r (fun c hc => hl c (by simp [hc])) i c h j hj
/-- The cells of one of them. -/
theorem Its.cells {w : World} {b : Nat} {ad : Option Addr} {n cap : Nat} {cs : List (List Value)} {items : List It} (h : Its w b (.slice ad n cap) cs items) (i : Nat) (hi : i < items.length) :
    ∃ g pv fv vv lo h', ad = some ⟨g, 0, none⟩ ∧ b < g ∧ g < w.heap.size ∧ w.cell? ⟨g, i * 5, none⟩ = some (.int .u8 items[i].k) ∧ w.cell? ⟨g, i * 5 + 1, none⟩ = some pv ∧ w.cell? ⟨g, i * 5 + 2, none⟩ = some fv ∧ w.cell? ⟨g, i * 5 + 3, none⟩ = some vv ∧
      w.cell? ⟨g, i * 5 + 4, none⟩ = some (.string items[i].rem) ∧ RowIn w lo h' 9 pv (items[i].path.map .string) ∧ RowIn w lo h' 9 fv (items[i].full.map .string) ∧ items[i].path.length ≤ 4001 ∧ items[i].full.length ≤ 8002 ∧
      b < lo ∧ h' ≤ w.heap.size ∧ (items[i].k = 61 → ∃ q, vv = ptr q ∧ RVal 7 lo h' w q items[i].v) ∧ (items[i].k ≠ 61 → vv = .pointer none) := by
  have hn : n = items.length := by
    obtain ⟨a, c, e⟩ := owns5_form h.2.1
    simp only [Value.slice.injEq] at e
    exact e.2.1
  subst hn
  obtain ⟨g, hg, hgb, hgz⟩ := owns5_some h.2.1 (by omega)
  subst hg
  have hcs : i < cs.length := by rw [h.1]; exact hi
  obtain ⟨lo, h', a1, a2, a3, pv, fv, vv, hc, r1, r2, r3, r4, r5, r6⟩ := h.2.2 i cs[i] items[i] (List.getElem?_eq_getElem hcs) (List.getElem?_eq_getElem hi)
  have hl : ∀ c ∈ cs, c.length = 5 := by
    intro c hc'
    obtain ⟨j, hj, e⟩ := List.getElem_of_mem hc'
    obtain ⟨lo2, hi2, _, _, _, rr⟩ := h.2.2 j c (items[j]'(by rw [← h.1]; exact hj)) (by rw [List.getElem?_eq_getElem hj, e]) (List.getElem?_eq_getElem (by rw [← h.1]; exact hj))
    exact rr.len
  have hcell : ∀ j, j < 5 → w.cell? ⟨g, i * 5 + j, none⟩ = cs[i][j]? := by
    intro j hj
    rw [h.2.1.cellAt (i * 5 + j) (by omega), Nat.mul_comm i 5]
    exact flatten_get cs hl i cs[i] (List.getElem?_eq_getElem hcs) j hj
  refine ⟨g, pv, fv, vv, lo, h', rfl, by omega, hgz, ?_, ?_, ?_, ?_, ?_, r1, r2, r5, r6, a1, a2, r3, r4⟩
  · have := hcell 0 (by omega); rw [hc] at this; exact this
  · have := hcell 1 (by omega); rw [hc] at this; exact this
  · have := hcell 2 (by omega); rw [hc] at this; exact this
  · have := hcell 3 (by omega); rw [hc] at this; exact this
  · have := hcell 4 (by omega); rw [hc] at this; exact this
end Go.Proofs.YtdebjhdafnpfkaaGreatDoor
