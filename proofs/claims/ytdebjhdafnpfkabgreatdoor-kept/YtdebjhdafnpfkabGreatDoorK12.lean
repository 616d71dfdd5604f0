import Derived.Test.YtdebjhdafnpfkabGreatDoorK07
import Derived.Test.YtdebjhdafnpfkabGreatDoorK02
import Derived.Test.YtdebjhdafnpfkabGreatDoorK11
namespace Go.Proofs.YtdebjhdafnpfkabGreatDoor
set_option linter.unusedVariables false
set_option linter.unusedSimpArgs false
/-- Is it the head, or does it begin with it and a dot? -/
def bgl : List UInt8 → List UInt8 → Bool
  | [], [] => true
  | a :: _, [] => a == 46
  | [], _ :: _ => false
  | a :: p, b :: h => a == b && bgl p h
theorem bgl_eq : ∀ (p h : List UInt8), 46 ∉ p → 46 ∉ h → bgl p h = decide (p = h)
  | [], [], _, _ => rfl
  | a :: p, [], hp, _ => by
    simp only [List.mem_cons, not_or] at hp
    simp only [bgl]
    rw [decide_eq_false (by simp)]
    simpa using fun e => hp.1 e.symm
  | [], b :: h, _, _ => by simp [bgl]
  | a :: p, b :: h, hp, hh => by
    simp only [List.mem_cons, not_or] at hp hh
    simp only [bgl, bgl_eq p h hp.2 hh.2, List.cons.injEq]
    by_cases e : a = b
    · simp [e]
    · simp [e]
theorem bgl_more (q : List UInt8) : ∀ (p h : List UInt8), 46 ∉ p → 46 ∉ h → bgl (p ++ 46 :: q) h = decide (p = h)
  | [], [], _, _ => rfl
  | a :: p, [], hp, _ => by
    simp only [List.mem_cons, not_or] at hp
    simp only [bgl, List.cons_append]
    rw [decide_eq_false (by simp)]
    simpa using fun e => hp.1 e.symm
  | [], b :: h, _, hh => by
    simp only [List.mem_cons, not_or] at hh
    simp only [List.nil_append, bgl]
    rw [decide_eq_false (by simp)]
    have : ((46 : UInt8) == b) = false := by simpa using hh.1
    rw [this]
    rfl
  | a :: p, b :: h, hp, hh => by
    simp only [List.mem_cons, not_or] at hp hh
    simp only [bgl, List.cons_append, bgl_more q p h hp.2 hh.2, List.cons.injEq]
    by_cases e : a = b
    · simp [e]
    · simp [e]
theorem bgl_less (r : List UInt8) : ∀ (p h : List UInt8), 46 ∉ p → 46 ∉ h → bgl p (h ++ 46 :: r) = false
  | [], [], _, _ => rfl
  | a :: p, [], hp, _ => by
    simp only [List.mem_cons, not_or] at hp
    simp only [List.nil_append, bgl]
    have : (a == (46 : UInt8)) = false := by simpa using fun e => hp.1 e.symm
    rw [this]
    rfl
  | [], b :: h, _, hh => rfl
  | a :: p, b :: h, hp, hh => by
    simp only [List.mem_cons, not_or] at hp hh
    simp only [bgl, List.cons_append, bgl_less r p h hp.2 hh.2, Bool.and_false]
theorem bgl_both (q r : List UInt8) : ∀ (p h : List UInt8), 46 ∉ p → 46 ∉ h → bgl (p ++ 46 :: q) (h ++ 46 :: r) = (decide (p = h) && bgl q r)
  | [], [], _, _ => by simp [bgl]
  | a :: p, [], hp, _ => by
    simp only [List.mem_cons, not_or] at hp
    simp only [List.nil_append, List.cons_append, bgl]
    have : (a == (46 : UInt8)) = false := by simpa using fun e => hp.1 e.symm
    rw [this, decide_eq_false (by simp)]
    rfl
  | [], b :: h, _, hh => by
    simp only [List.mem_cons, not_or] at hh
    simp only [List.nil_append, List.cons_append, bgl]
    have : ((46 : UInt8) == b) = false := by simpa using hh.1
    rw [this, decide_eq_false (by simp)]
    rfl
  | a :: p, b :: h, hp, hh => by
    simp only [List.mem_cons, not_or] at hp hh
    simp only [bgl, List.cons_append, bgl_both q r p h hp.2 hh.2, List.cons.injEq]
    by_cases e : a = b
    · simp [e]
    · simp [e]
theorem bgl_refl : ∀ p : List UInt8, bgl p p = true
  | [] => rfl
  | a :: p => by simp [bgl, bgl_refl p]
/-- A name: some letters. -/
def nmOk (n : ByteArray) : Prop := n.size ≠ 0 ∧ (46 : UInt8) ∉ n.data.toList
/-- A path: some names. -/
def vpath (l : List ByteArray) : Prop := l ≠ [] ∧ ∀ n ∈ l, nmOk n
theorem jn_list : ∀ (n m : ByteArray) (r : List ByteArray), (jn (n :: m :: r)).data.toList = n.data.toList ++ 46 :: (jn (m :: r)).data.toList := by
  intro n m r
  show (n ++ dotS ++ jn (m :: r)).data.toList = _
  simp [dotS]
theorem rstarts_nil (P : List ByteArray) : rstarts P [] = true := by simp [rstarts]
theorem rstarts_short (h : ByteArray) (H : List ByteArray) : rstarts [] (h :: H) = false := by simp [rstarts]
theorem rstarts_cons (p h : ByteArray) (P H : List ByteArray) : rstarts (p :: P) (h :: H) = (decide (p = h) && rstarts P H) := by
  rw [Bool.eq_iff_iff]
  simp only [rstarts, Bool.and_eq_true, decide_eq_true_eq, List.length_cons, List.take_succ_cons, List.cons.injEq, Nat.add_le_add_iff_right]
  constructor
  · rintro ⟨h1, h2, h3⟩; exact ⟨h2, h1, h3⟩
  · rintro ⟨h2, h1, h3⟩; exact ⟨h1, h2, h3⟩
theorem data_inj {a b : ByteArray} : a.data.toList = b.data.toList ↔ a = b := ⟨bytes_ext, fun e => by rw [e]⟩
theorem bgl_jn : ∀ (H P : List ByteArray), vpath P → vpath H → bgl (jn P).data.toList (jn H).data.toList = rstarts P H
  | [], P, _, h => absurd rfl h.1
  | _ :: _, [], h, _ => absurd rfl h.1
  | [h], [p], hp, hh => by
    rw [rstarts_cons, rstarts_nil, Bool.and_true]
    show bgl p.data.toList h.data.toList = _
    rw [bgl_eq _ _ (hp.2 p (by simp)).2 (hh.2 h (by simp)).2]
    simp only [data_inj]
  | [h], p :: p2 :: P, hp, hh => by
    rw [rstarts_cons, rstarts_nil, Bool.and_true, jn_list]
    show bgl _ h.data.toList = _
    rw [bgl_more _ _ _ (hp.2 p (by simp)).2 (hh.2 h (by simp)).2]
    simp only [data_inj]
  | h :: h2 :: H, [p], hp, hh => by
    rw [rstarts_cons, rstarts_short, Bool.and_false, jn_list]
    show bgl p.data.toList _ = _
    exact bgl_less _ _ _ (hp.2 p (by simp)).2 (hh.2 h (by simp)).2
  | h :: h2 :: H, p :: p2 :: P, hp, hh => by
    rw [rstarts_cons, jn_list, jn_list, bgl_both _ _ _ _ (hp.2 p (by simp)).2 (hh.2 h (by simp)).2]
    rw [bgl_jn (h2 :: H) (p2 :: P) ⟨by simp, fun n hn => hp.2 n (by simp [List.mem_cons.1 hn])⟩ ⟨by simp, fun n hn => hh.2 n (by simp [List.mem_cons.1 hn])⟩]
    simp only [data_inj]
theorem rstarts_len {P H : List ByteArray} (h : rstarts P H = true) (hl : P.length = H.length) : P = H := by
  simp only [rstarts, decide_eq_true_eq] at h
  rw [← hl, List.take_length] at h
  exact h.2
theorem jn_inj {P H : List ByteArray} (hp : vpath P) (hh : vpath H) : jn P = jn H ↔ P = H := by
  constructor
  · intro e
    have h1 : rstarts P H = true := by rw [← bgl_jn H P hp hh, e]; exact bgl_refl _
    have h2 : rstarts H P = true := by rw [← bgl_jn P H hh hp, e]; exact bgl_refl _
    have l1 : H.length ≤ P.length := by simp only [rstarts, decide_eq_true_eq] at h1; exact h1.1
    have l2 : P.length ≤ H.length := by simp only [rstarts, decide_eq_true_eq] at h2; exact h2.1
    exact rstarts_len h1 (by omega)
  · rintro rfl; rfl
/-- The same, as the program asks it. -/
def bgB (p h : ByteArray) : Bool := bgl p.data.toList h.data.toList
theorem bgl_pre : ∀ (p h : List UInt8), bgl p h = (h.isPrefixOf p && (decide (p.drop h.length = []) || decide ((p.drop h.length).head? = some 46)))
  | [], [] => rfl
  | a :: p, [] => by
    simp only [bgl, List.isPrefixOf, List.length_nil, List.drop_zero, Bool.true_and, List.head?_cons, Option.some.injEq]
    rw [decide_eq_false (by simp), Bool.false_or, Bool.eq_iff_iff]
    simp
  | [], b :: h => by simp [bgl, List.isPrefixOf]
  | a :: p, b :: h => by
    simp only [bgl, List.isPrefixOf, List.length_cons, List.drop_succ_cons, bgl_pre p h, Bool.and_assoc]
    by_cases e : a = b
    · subst e; simp
    · have e1 : (a == b) = false := by simpa using e
      have e2 : (b == a) = false := by simpa using fun h => e h.symm
      rw [e1, e2]
theorem jn_size {P : List ByteArray} (h : vpath P) : (jn P).size ≠ 0 := by
  match P, h with
  | [], h => exact absurd rfl h.1
  | [n], h => exact (h.2 n (by simp)).1
  | n :: m :: r, h =>
    have := (h.2 n (by simp)).1
    show (n ++ dotS ++ jn (m :: r)).size ≠ 0
    rw [ByteArray.size_append, ByteArray.size_append]
    omega
theorem jn_app {P Q : List ByteArray} (hp : P ≠ []) (hq : Q ≠ []) : jn (P ++ Q) = jn P ++ dotS ++ jn Q := by
  match P, hp with
  | [], h => exact absurd rfl h
  | [n], _ =>
    cases Q with
    | nil => exact absurd rfl hq
    | cons q r => rfl
  | n :: m :: r, _ =>
    show n ++ dotS ++ jn (m :: r ++ Q) = n ++ dotS ++ jn (m :: r) ++ dotS ++ jn Q
    rw [jn_app (P := m :: r) (by simp) hq]
    simp only [ByteArray.append_assoc]
theorem vpath_app {P Q : List ByteArray} (hp : P = [] ∨ vpath P) (hq : vpath Q) : vpath (P ++ Q) := by
  rcases hp with rfl | hp
  · exact hq
  · refine ⟨by simp [hp.1], fun n hn => ?_⟩
    rcases List.mem_append.1 hn with h | h
    · exact hp.2 n h
    · exact hq.2 n h
end Go.Proofs.YtdebjhdafnpfkabGreatDoor

namespace Go.Proofs.YtdebjhdafnpfkabGreatDoor
open Go.ChangeShapes Go.WideShapes Go.ChangeAt Go.RowKit
set_option linter.unusedVariables false
set_option linter.unusedSimpArgs false
theorem rest_head (p : ByteArray) (k : Nat) (r : ByteArray) (hr : r.data.toList = p.data.toList.drop k) (h : 0 < r.size) : (r[0].toNat = 46) ↔ (p.data.toList.drop k).head? = some 46 := by
  have hl : r.data.toList.length = r.size := Array.length_toList
  rw [← hr]
  obtain ⟨b, hb1, hb2⟩ := bt_list r 0 h
  rw [bt_in r 0 h, ← hb2]
  cases hd : r.data.toList with
  | nil => rw [hd] at hl; simp at hl; omega
  | cons c t =>
    rw [hd] at hb1
    simp only [List.getElem?_cons_zero, Option.some.injEq] at hb1
    subst hb1
    simp only [List.head?_cons, Option.some.injEq, ← UInt8.toNat_inj]
    rfl
theorem begins_any (p h : ByteArray) (w : World) (hp : p.size ≤ 9000) :
    Calls Tryz.prog 85 #[.string p, .string h] w fun e w' => e = .returned (.bool (bgB p h)) ∧ w' = w := by
  have B : Hid _ := bgl_pre p.data.toList h.data.toList
  cases hP : Lib.hasPrefix p.data.toList h.data.toList
  · have Fin : Hid (bgB p h = false) := by
      unfold Hid bgB
      rw [B.out]
      unfold Lib.hasPrefix at hP
      rw [hP, Bool.false_and]
    have HP : Hid _ := hP
    clear hP
    go_enter Tryz.func85, Tryz.ntmps85
    go_wp2_with fail
    refine (Tryz.strings_CutPrefix p h _).mono ?_
    rintro e w0 ⟨rfl, hw0⟩
    rw [hw0, HP.out]
    clear hw0
    go_wp2_with fail
    go_ret
    exact ⟨ret_bool' Fin.out.symm, rfl⟩
  · have hT : Hid (Lib.trimPrefix p.data.toList h.data.toList = p.data.toList.drop h.data.toList.length) := by
      unfold Hid Lib.trimPrefix
      rw [if_pos hP]
    have Fin : Hid (bgB p h = (decide (p.data.toList.drop h.data.toList.length = []) || decide ((p.data.toList.drop h.data.toList.length).head? = some 46))) := by
      unfold Hid bgB
      rw [B.out]
      unfold Lib.hasPrefix at hP
      rw [hP, Bool.true_and]
    have HP : Hid _ := hP
    clear hP
    go_enter Tryz.func85, Tryz.ntmps85
    go_wp2_with fail
    refine (Tryz.strings_CutPrefix p h _).mono ?_
    rintro e w0 ⟨rfl, hw0⟩
    rw [hw0, HP.out, hT.out]
    clear hw0
    have hr : Hid ((⟨(p.data.toList.drop h.data.toList.length).toArray⟩ : ByteArray).data.toList = p.data.toList.drop h.data.toList.length) := rfl
    have hE := mk_empty (p.data.toList.drop h.data.toList.length)
    generalize (⟨(p.data.toList.drop h.data.toList.length).toArray⟩ : ByteArray) = r at *
    have hl : r.data.toList.length = r.size := Array.length_toList
    have Hl : Hid _ := hl
    clear hl
    by_cases h0 : r.size = 0
    · have te : r.toList.isEmpty = true := by rw [toList_empty]; exact decide_eq_true h0
      have F2 : Hid (bgB p h = true) := by
        unfold Hid
        rw [hE] at te
        rw [Fin.out, te, Bool.true_or]
      clear hE h0
      go_wp2_with fail
      go_ret
      exact ⟨ret_bool' F2.out.symm, rfl⟩
    · have te : r.toList.isEmpty = false := by rw [toList_empty]; exact decide_eq_false h0
      have h1 : 0 < r.size := by omega
      have F2 : Hid (bgB p h = decide (r[0].toNat = 46)) := by
        unfold Hid
        rw [hE] at te
        rw [Fin.out, te, Bool.false_or, Bool.eq_iff_iff, decide_eq_true_eq, decide_eq_true_eq]
        exact (rest_head p _ r hr.out h1).symm
      clear hE h0
      go_wp2_with fail
      go_ret
      refine ⟨ret_bool' ?_, rfl⟩
      rw [F2.out, Bool.eq_iff_iff, decide_eq_true_eq]
      simp
      omega
/-- A row that hangs at a cell of block b was grown. -/
structure Ap (b c : Nat) (v : Value) (w w' : World) (v' : Value) : Prop where
  os : w'.os = w.os
  tape : w'.tape = w.tape
  output : w'.output = w.output
  size : w.heap.size ≤ w'.heap.size
  block : ∀ k, k < w.heap.size → k ≠ b → v.ownBlock ≠ some k → w'.heap[k]? = w.heap[k]?
  off : ∀ o, o ≠ c → w'.cell? ⟨b, o, none⟩ = w.cell? ⟨b, o, none⟩
  cell : w'.cell? ⟨b, c, none⟩ = some v'
  froz : ∀ o, w'.frozen? ⟨b, o, none⟩ = w.frozen? ⟨b, o, none⟩
  own : v'.ownBlock = v.ownBlock ∨ ∀ k, v'.ownBlock = some k → w.heap.size ≤ k
theorem ap_mk {b c : Nat} {v v' u : Value} {w w1 w2 : World} (hb : b < w.heap.size) (h0 : w.cell? ⟨b, c, none⟩ = some u) (hv : v.ownBlock ≠ some b) (h1 : Below w.heap.size w w1) (hg : w1.grownBy w2 v.ownBlock)
    (hat : v'.ownBlock = v.ownBlock ∨ v'.ownBlock = some w1.heap.size) : Ap b c v w (w2.setCell ⟨b, c, none⟩ v') v' := by
  have hz := h1.size
  have hz2 := hg.size
  have hbb : w2.heap[b]? = w.heap[b]? := (hg.block b (by omega) (fun e => hv e.symm)).trans (h1.block b hb)
  refine ⟨hg.os.trans h1.os, hg.tape.trans h1.tape, hg.output.trans h1.output, by simpa [World.setCell] using Nat.le_trans hz hz2, fun k hk hkb hkv => ?_, fun o ho => ?_, ?_, fun o => ?_, ?_⟩
  · rw [Below.heap_setCell _ _ _ _ (by simpa using hkb), hg.block k (by omega) (fun e => hkv e.symm)]
    exact h1.block k hk
  · rw [cell_set_off _ _ _ _ _ (fun e => ho e.symm)]
    exact World.cell?_of_block (w := w) hbb
  · exact cell_set_same _ _ _ _ _ ((World.cell?_of_block (w := w) hbb).trans h0)
  · rw [World.frozen?_setCell]
    exact World.frozen?_of_block (w := w) hbb
  · rcases hat with e | e
    · exact .inl e
    · refine .inr (fun k hk => ?_)
      rw [e] at hk
      cases hk
      exact hz
theorem prow_cell {w : World} {base : Nat} {e : TypeId} {ad : Option Addr} {n cap : Nat} {H : List ByteArray} (h : w.ownsRow base e 1 (.slice ad n cap) n (H.map .string)) (hn : H.length = n) (k : Nat) (p : ByteArray) (hk : H[k]? = some p) :
    ∃ g, ad = some ⟨g, 0, none⟩ ∧ w.cell? ⟨g, k, none⟩ = some (.string p) := by
  have hkl : k < H.length := (List.getElem?_eq_some_iff.1 hk).1
  rcases h.2 with ⟨_, h0⟩ | ⟨g, c, cur, hgv, hg1, hgg, _⟩
  · omega
  · simp only [Value.slice.injEq] at hgv
    obtain ⟨rfl, _, rfl⟩ := hgv
    refine ⟨g, rfl, ?_⟩
    rw [h.cellAt k (by omega), List.getElem?_map, hk]
    rfl
theorem any_take {α : Type} (f : α → Bool) (H : List α) (k : Nat) (p : α) (hk : H[k]? = some p) (h : (H.take k).any f = false) : (H.take (k + 1)).any f = f p := by
  rw [List.take_add_one, hk, List.any_append, h]
  simp
theorem any_mem {α : Type} (f : α → Bool) (H : List α) (k : Nat) (p : α) (hk : H[k]? = some p) (h : f p = true) : H.any f = true := by
  rw [List.any_eq_true]
  exact ⟨p, List.mem_of_getElem? hk, h⟩
theorem info_str : (Tryz.prog.info? 9).map (fun i => (i.zero, i.size, i.bytes)) = some (some (.string ⟨#[]⟩), 1, 16) := by kernel_rfl
/-- May the header be? -/
def hdrOk (H P : List ByteArray) (p : ByteArray) : Bool := !(H.any (fun h => decide (h = p))) && !(P.any (fun q => bgB p q))
set_option maxRecDepth 100000 in
set_option maxHeartbeats 4000000 in
theorem addHeader_any (b : Nat) (H P : List ByteArray) (hv pv : Value) (p : ByteArray) (w : World) (hb : b < w.heap.size) (hp : p.size ≤ 9000) (hH : H.length ≤ 4001) (hP : P.length ≤ 4001)
    (c4 : w.cell? ⟨b, 4, none⟩ = some hv) (c5 : w.cell? ⟨b, 5, none⟩ = some pv) (hF : ∀ o, w.frozen? ⟨b, o, none⟩ = false)
    (o4 : w.ownsRow (b + 1) 9 1 hv H.length (H.map .string)) (o5 : w.ownsRow (b + 1) 9 1 pv P.length (P.map .string)) :
    Calls Tryz.prog 75 #[.pointer (some ⟨b, 4, none⟩), .string p] w fun e w' => (hdrOk H P p = false ∧ e = .returned (.bool false) ∧ w' = w) ∨
      (hdrOk H P p = true ∧ e = .returned (.bool true) ∧ ∃ hv', Ap b 4 hv w w' hv' ∧ w'.ownsRow (b + 1) 9 1 hv' (H ++ [p]).length ((H ++ [p]).map .string)) := by
  obtain ⟨i0, hi, hz0, hz1, hz2⟩ := info_parts info_str
  obtain ⟨ad4, cap4, rfl⟩ := ownsS_form o4
  obtain ⟨ad5, cap5, rfl⟩ := ownsS_form o5
  have O4 : Hid (w.ownsRow (b + 1) 9 1 (.slice ad4 H.length cap4) H.length (H.map .string)) := o4
  have O5 : Hid (w.ownsRow (b + 1) 9 1 (.slice ad5 P.length cap5) P.length (P.map .string)) := o5
  have C4 : Hid _ := c4
  clear o4 o5
  go_enter Tryz.func75, Tryz.ntmps75
  go_wp2_with fail
  go_loop [14] (fun u14 => ∃ k : Nat, k ≤ H.length ∧ u14 = .int .i64 k ∧ Hid ((H.take k).any (fun h => decide (h = p)) = false)) (fun u14 => H.length - (intOf u14).toNat)
  case atStart => exact ⟨0, Nat.zero_le _, rfl, rfl⟩
  case round =>
    obtain ⟨k, hk, rfl, ht⟩ := hrel
    by_cases hlt : k < H.length
    · obtain ⟨h, hh⟩ : ∃ h, H[k]? = some h := ⟨_, List.getElem?_eq_getElem hlt⟩
      obtain ⟨g, rfl, hc⟩ := prow_cell O4.out rfl k h hh
      have Hh : Hid _ := hh
      clear hh
      by_cases heq : h = p
      · have ts : (h.toList == p.toList) = true := by rw [toList_beq]; exact decide_eq_true heq
        have Fin : Hid (hdrOk H P p = false) := by
          unfold Hid hdrOk
          rw [any_mem (fun h => decide (h = p)) H k h Hh.out (by simpa using heq)]
          rfl
        clear heq
        go_wp2_with fail
        go_ret
        exact .inl ⟨Fin.out, rfl, rfl⟩
      · have ts : (h.toList == p.toList) = false := by rw [toList_beq]; exact decide_eq_false heq
        have Fin : Hid ((H.take (k + 1)).any (fun h => decide (h = p)) = false) := by
          unfold Hid
          rw [any_take (fun h => decide (h = p)) H k h Hh.out ht.out]
          exact decide_eq_false heq
        clear heq
        go_wp2_with fail
        go_round
        case rel => exact ⟨k + 1, by omega, by go_num, Fin⟩
        case measure => simp [intOf]; omega
    · have F1 : Hid (H.any (fun h => decide (h = p)) = false) := by
        have := ht.out
        rw [List.take_of_length_le (by omega)] at this
        exact this
      clear ht
      go_wp2_with fail
      go_loop [27] (fun u27 => ∃ j : Nat, j ≤ P.length ∧ u27 = .int .i64 j ∧ Hid ((P.take j).any (fun q => bgB p q) = false)) (fun u27 => P.length - (intOf u27).toNat)
      case atStart => exact ⟨0, Nat.zero_le _, rfl, rfl⟩
      case round =>
        obtain ⟨j, hj, rfl, ht⟩ := hrel
        by_cases hlt2 : j < P.length
        · obtain ⟨q, hq⟩ : ∃ q, P[j]? = some q := ⟨_, List.getElem?_eq_getElem hlt2⟩
          obtain ⟨g, rfl, hc⟩ := prow_cell O5.out rfl j q hq
          have Hq : Hid _ := hq
          clear hq
          cases hbg : bgB p q
          · have Fin : Hid ((P.take (j + 1)).any (fun q => bgB p q) = false) := by
              unfold Hid
              rw [any_take (fun q => bgB p q) P j q Hq.out ht.out]
              exact hbg
            go_wp2_with fail
            refine (begins_any p q _ hp).mono ?_
            rintro e w0 ⟨rfl, hw0⟩
            rw [hw0, hbg]
            clear hw0
            go_wp2_with fail
            go_round
            case rel => exact ⟨j + 1, by omega, by go_num, Fin⟩
            case measure => simp [intOf]; omega
          · have Fin : Hid (hdrOk H P p = false) := by
              unfold Hid hdrOk
              rw [any_mem (fun q => bgB p q) P j q Hq.out hbg, Bool.not_true, Bool.and_false]
            go_wp2_with fail
            refine (begins_any p q _ hp).mono ?_
            rintro e w0 ⟨rfl, hw0⟩
            rw [hw0, hbg]
            clear hw0
            go_wp2_with fail
            go_ret
            exact .inl ⟨Fin.out, rfl, rfl⟩
        · have F2 : Hid (hdrOk H P p = true) := by
            have := ht.out
            rw [List.take_of_length_le (by omega)] at this
            unfold Hid hdrOk
            rw [F1.out, this]
            rfl
          clear ht F1
          go_wp2_with (at_builtin; refine wpList_append_own_at _ rfl (.tmp 39) (.tmp 41) 25 rfl (b + 1) 9 i0 (.string ⟨#[]⟩) 1 16 Tryz.underlying25 hi hz0 hz1 hz2 rfl (by decide) _ _ _ rfl (O4.out.alloc _) ⟨w.heap.size, 0, none⟩ 1 1 [.string p] rfl rfl (cell_one_new _ _ _) (by intro u hu; simp at hu; subst hu; rfl) (by unfold maxLen; omega) (by omega) (by simp; omega) ?_; intro v1 w2 hown2 hgrow2 hnil2 hat2; refine Hid.out ?_)
          have hne : (Value.slice ad4 H.length cap4).ownBlock ≠ some b := fun e => (ownsS_ne O4.out (Nat.lt_succ_self b)) e.symm
          have HA : Hid (Ap b 4 (.slice ad4 H.length cap4) w (w2.setCell ⟨b, 4, none⟩ v1) v1) := ap_mk hb C4.out hne ((Below.refl _ _).alloc (Nat.le_refl _) _) hgrow2 hat2
          have HO : Hid ((w2.setCell ⟨b, 4, none⟩ v1).ownsRow (b + 1) 9 1 v1 (H ++ [p]).length ((H ++ [p]).map .string)) := by
            unfold Hid
            refine ownsS_frame (w := w2) (by simpa using hown2) (fun k k1 _ _ => Below.heap_setCell _ _ _ _ (by simp only; omega))
          have hbb : w2.heap[b]? = w.heap[b]? := (hgrow2.block b (by simp; omega) (fun e => hne e.symm)).trans (Below.heap_alloc _ _ _ hb)
          have c4' : w2.cell? ⟨b, 4, none⟩ = some (.slice ad4 H.length cap4) := (World.cell?_of_block (w := w) hbb).trans C4.out
          have hF' : ∀ o, w2.frozen? ⟨b, o, none⟩ = false := fun o => (World.frozen?_of_block (w := w) hbb).trans (hF o)
          obtain ⟨ad2, cap2, hv2⟩ := ownsS_form hown2
          subst hv2
          clear hown2 hgrow2 hnil2 hat2 hbb
          unfold Hid
          go_wp2_with fail
          go_ret
          exact .inr ⟨F2.out, rfl, _, HA.out, HO.out⟩
end Go.Proofs.YtdebjhdafnpfkabGreatDoor

namespace Go.Proofs.YtdebjhdafnpfkabGreatDoor
open Go.ChangeShapes Go.WideShapes Go.ChangeAt Go.RowKit
set_option linter.unusedVariables false
set_option linter.unusedSimpArgs false
/-- May the pair be? -/
def pairOk (H P : List ByteArray) (p : ByteArray) : Bool := !(P.any (fun q => bgB p q || bgB q p)) && !(H.any (fun h => bgB h p))
set_option maxRecDepth 100000 in
set_option maxHeartbeats 4000000 in
theorem addPair_any (b : Nat) (H P : List ByteArray) (hv pv : Value) (p : ByteArray) (w : World) (hb : b < w.heap.size) (hp : p.size ≤ 9000) (hH : H.length ≤ 4001) (hP : P.length ≤ 4001)
    (hHs : ∀ h ∈ H, h.size ≤ 9000) (hPs : ∀ q ∈ P, q.size ≤ 9000)
    (c4 : w.cell? ⟨b, 4, none⟩ = some hv) (c5 : w.cell? ⟨b, 5, none⟩ = some pv) (hF : ∀ o, w.frozen? ⟨b, o, none⟩ = false)
    (o4 : w.ownsRow (b + 1) 9 1 hv H.length (H.map .string)) (o5 : w.ownsRow (b + 1) 9 1 pv P.length (P.map .string)) :
    Calls Tryz.prog 77 #[.pointer (some ⟨b, 4, none⟩), .string p] w fun e w' => (pairOk H P p = false ∧ e = .returned (.bool false) ∧ w' = w) ∨
      (pairOk H P p = true ∧ e = .returned (.bool true) ∧ ∃ pv', Ap b 5 pv w w' pv' ∧ w'.ownsRow (b + 1) 9 1 pv' (P ++ [p]).length ((P ++ [p]).map .string)) := by
  obtain ⟨i0, hi, hz0, hz1, hz2⟩ := info_parts info_str
  obtain ⟨ad4, cap4, rfl⟩ := ownsS_form o4
  obtain ⟨ad5, cap5, rfl⟩ := ownsS_form o5
  have O4 : Hid (w.ownsRow (b + 1) 9 1 (.slice ad4 H.length cap4) H.length (H.map .string)) := o4
  have O5 : Hid (w.ownsRow (b + 1) 9 1 (.slice ad5 P.length cap5) P.length (P.map .string)) := o5
  have C5 : Hid _ := c5
  have HHs : Hid (∀ h ∈ H, h.size ≤ 9000) := hHs
  have HPs : Hid (∀ q ∈ P, q.size ≤ 9000) := hPs
  clear o4 o5 hHs hPs
  go_enter Tryz.func77, Tryz.ntmps77
  go_wp2_with fail
  go_loop [14] (fun u14 => ∃ k : Nat, k ≤ P.length ∧ u14 = .int .i64 k ∧ Hid ((P.take k).any (fun q => bgB p q || bgB q p) = false)) (fun u14 => P.length - (intOf u14).toNat)
  case atStart => exact ⟨0, Nat.zero_le _, rfl, rfl⟩
  case round =>
    obtain ⟨k, hk, rfl, ht⟩ := hrel
    by_cases hlt : k < P.length
    · obtain ⟨q, hq⟩ : ∃ q, P[k]? = some q := ⟨_, List.getElem?_eq_getElem hlt⟩
      obtain ⟨g, rfl, hc⟩ := prow_cell O5.out rfl k q hq
      have Hq : Hid _ := hq
      have hqs := HPs.out q (List.mem_of_getElem? hq)
      clear hq
      cases hb1 : bgB p q
      · cases hb2 : bgB q p
        · have Fin : Hid ((P.take (k + 1)).any (fun q => bgB p q || bgB q p) = false) := by
            unfold Hid
            rw [any_take (fun q => bgB p q || bgB q p) P k q Hq.out ht.out, hb1, hb2]
            rfl
          go_wp2_with fail
          refine (begins_any p q _ hp).mono ?_
          rintro e w0 ⟨rfl, hw0⟩
          rw [hw0, hb1]
          clear hw0
          go_wp2_with fail
          refine (begins_any q p _ hqs).mono ?_
          rintro e w0 ⟨rfl, hw0⟩
          rw [hw0, hb2]
          clear hw0
          go_wp2_with fail
          go_round
          case rel => exact ⟨k + 1, by omega, by go_num, Fin⟩
          case measure => simp [intOf]; omega
        · have Fin : Hid (pairOk H P p = false) := by
            unfold Hid pairOk
            rw [any_mem (fun q => bgB p q || bgB q p) P k q Hq.out (by rw [hb2, Bool.or_true])]
            rfl
          go_wp2_with fail
          refine (begins_any p q _ hp).mono ?_
          rintro e w0 ⟨rfl, hw0⟩
          rw [hw0, hb1]
          clear hw0
          go_wp2_with fail
          refine (begins_any q p _ hqs).mono ?_
          rintro e w0 ⟨rfl, hw0⟩
          rw [hw0, hb2]
          clear hw0
          go_wp2_with fail
          go_ret
          exact .inl ⟨Fin.out, rfl, rfl⟩
      · have Fin : Hid (pairOk H P p = false) := by
          unfold Hid pairOk
          rw [any_mem (fun q => bgB p q || bgB q p) P k q Hq.out (by rw [hb1, Bool.true_or])]
          rfl
        go_wp2_with fail
        refine (begins_any p q _ hp).mono ?_
        rintro e w0 ⟨rfl, hw0⟩
        rw [hw0, hb1]
        clear hw0
        go_wp2_with fail
        go_ret
        exact .inl ⟨Fin.out, rfl, rfl⟩
    · have F1 : Hid (P.any (fun q => bgB p q || bgB q p) = false) := by
        have := ht.out
        rw [List.take_of_length_le (by omega)] at this
        exact this
      clear ht
      go_wp2_with fail
      go_loop [32] (fun u32 => ∃ j : Nat, j ≤ H.length ∧ u32 = .int .i64 j ∧ Hid ((H.take j).any (fun h => bgB h p) = false)) (fun u32 => H.length - (intOf u32).toNat)
      case atStart => exact ⟨0, Nat.zero_le _, rfl, rfl⟩
      case round =>
        obtain ⟨j, hj, rfl, ht⟩ := hrel
        by_cases hlt2 : j < H.length
        · obtain ⟨q, hq⟩ : ∃ q, H[j]? = some q := ⟨_, List.getElem?_eq_getElem hlt2⟩
          obtain ⟨g, rfl, hc⟩ := prow_cell O4.out rfl j q hq
          have Hq : Hid _ := hq
          have hqs := HHs.out q (List.mem_of_getElem? hq)
          clear hq
          cases hbg : bgB q p
          · have Fin : Hid ((H.take (j + 1)).any (fun h => bgB h p) = false) := by
              unfold Hid
              rw [any_take (fun h => bgB h p) H j q Hq.out ht.out]
              exact hbg
            go_wp2_with fail
            refine (begins_any q p _ hqs).mono ?_
            rintro e w0 ⟨rfl, hw0⟩
            rw [hw0, hbg]
            clear hw0
            go_wp2_with fail
            go_round
            case rel => exact ⟨j + 1, by omega, by go_num, Fin⟩
            case measure => simp [intOf]; omega
          · have Fin : Hid (pairOk H P p = false) := by
              unfold Hid pairOk
              rw [any_mem (fun h => bgB h p) H j q Hq.out hbg, Bool.not_true, Bool.and_false]
            go_wp2_with fail
            refine (begins_any q p _ hqs).mono ?_
            rintro e w0 ⟨rfl, hw0⟩
            rw [hw0, hbg]
            clear hw0
            go_wp2_with fail
            go_ret
            exact .inl ⟨Fin.out, rfl, rfl⟩
        · have F2 : Hid (pairOk H P p = true) := by
            have := ht.out
            rw [List.take_of_length_le (by omega)] at this
            unfold Hid pairOk
            rw [F1.out, this]
            rfl
          clear ht F1
          go_wp2_with (at_builtin; refine wpList_append_own_at _ rfl (.tmp 44) (.tmp 46) 25 rfl (b + 1) 9 i0 (.string ⟨#[]⟩) 1 16 Tryz.underlying25 hi hz0 hz1 hz2 rfl (by decide) _ _ _ rfl (O5.out.alloc _) ⟨w.heap.size, 0, none⟩ 1 1 [.string p] rfl rfl (cell_one_new _ _ _) (by intro u hu; simp at hu; subst hu; rfl) (by unfold maxLen; omega) (by omega) (by simp; omega) ?_; intro v1 w2 hown2 hgrow2 hnil2 hat2; refine Hid.out ?_)
          have hne : (Value.slice ad5 P.length cap5).ownBlock ≠ some b := fun e => (ownsS_ne O5.out (Nat.lt_succ_self b)) e.symm
          have HA : Hid (Ap b 5 (.slice ad5 P.length cap5) w (w2.setCell ⟨b, 5, none⟩ v1) v1) := ap_mk hb C5.out hne ((Below.refl _ _).alloc (Nat.le_refl _) _) hgrow2 hat2
          have HO : Hid ((w2.setCell ⟨b, 5, none⟩ v1).ownsRow (b + 1) 9 1 v1 (P ++ [p]).length ((P ++ [p]).map .string)) := by
            unfold Hid
            refine ownsS_frame (w := w2) (by simpa using hown2) (fun k k1 _ _ => Below.heap_setCell _ _ _ _ (by simp only; omega))
          have hbb : w2.heap[b]? = w.heap[b]? := (hgrow2.block b (by simp; omega) (fun e => hne e.symm)).trans (Below.heap_alloc _ _ _ hb)
          have c5' : w2.cell? ⟨b, 5, none⟩ = some (.slice ad5 P.length cap5) := (World.cell?_of_block (w := w) hbb).trans C5.out
          have hF' : ∀ o, w2.frozen? ⟨b, o, none⟩ = false := fun o => (World.frozen?_of_block (w := w) hbb).trans (hF o)
          obtain ⟨ad2, cap2, hv2⟩ := ownsS_form hown2
          subst hv2
          clear hown2 hgrow2 hnil2 hat2 hbb
          unfold Hid
          go_wp2_with fail
          go_ret
          exact .inr ⟨F2.out, rfl, _, HA.out, HO.out⟩
end Go.Proofs.YtdebjhdafnpfkabGreatDoor
