import Derived.Test.YtdebjhdafnpfkaaGreatDoorB21
import Derived.Test.YtdebjhdafnpfkaaGreatDoorB20
import Derived.Test.YtdebjhdafnpfkaaGreatDoorB25
import Derived.Test.YtdebjhdafnpfkaaGreatDoorB02
import Derived.Test.YtdebjhdafnpfkaaGreatDoorB35
namespace Go.Proofs.YtdebjhdafnpfkaaGreatDoor
open Go.ChangeShapes Go.WideShapes Go.ChangeAt Go.RowKit
set_option linter.unusedVariables false
set_option linter.unusedSimpArgs false
theorem open_ok (d q : Nat) (w : World) (h : w.cell? ⟨d, 0, none⟩ = some (ptr q)) : Calls Tryz.prog 42 #[ptr d] w fun e w' => e = .returned .nilIface ∧ w' = w := by
  go_enter Tryz.func42, Tryz.ntmps42
  go_wp2
  go_ret
  exact ⟨rfl, rfl⟩
theorem clone_any2 (s : ByteArray) (w : World) (hs : s.size ≤ 1000000) : Calls Tryz.prog 48 #[.string s] w fun e w' => e = .returned (.string s) ∧ Below w.heap.size w w' := by
  go_enter Tryz.func48, Tryz.ntmps48
  go_wp2_with fail
  refine (Tryz.stringslite_Clone s _ (by omega)).mono ?_
  rintro e w1 ⟨rfl, hB⟩
  go_wp2_with fail
  go_ret
  exact ⟨rfl, hB⟩
theorem pathsOf_at {items : List It} {i : Nat} {t : It} (h : (pairsOf items)[i]? = some t) : (pathsOf items)[i]? = some (jn t.full) := by
  unfold pathsOf
  rw [List.getElem?_map, h]
  rfl
theorem ptrs_at {qs : List Nat} {i q : Nat} (h : qs[i]? = some q) : (qs.map ptr)[i]? = some (ptr q) := by
  rw [List.getElem?_map, h]
  rfl
set_option maxRecDepth 100000 in
set_option maxHeartbeats 4000000 in
/-- The program's Paths. -/
theorem paths_any (d q : Nat) (items : List It) (w0 w : World) (hd : w.cell? ⟨d, 0, none⟩ = some (ptr q)) (hsh : SheetOk w0 w q items) (hsz : ∀ t ∈ items, t.k = 61 → (jn t.full).size ≤ 1000000) :
    Calls Tryz.prog 23 #[ptr d] w fun e w' => ∃ lv, e = .returned lv ∧ w'.ownsRow w.heap.size 9 1 lv (pathsOf items).length ((pathsOf items).map .string) ∧ Below w.heap.size w w' := by
  obtain ⟨i0, hi, hz0, hz1, hz2⟩ := info_parts info_string
  have hlen := hsh.2.1
  have HS : Hid (SheetOk w0 w q items) := hsh
  have HZ : Hid (∀ t ∈ pairsOf items, (jn t.full).size ≤ 1000000) := fun t ht => hsz t (List.mem_filter.1 ht).1 (of_decide_eq_true (List.mem_filter.1 ht).2)
  clear hsh hsz
  go_enter Tryz.func23, Tryz.ntmps23
  go_wp2_with fail
  refine (open_ok d q _ hd).mono ?_
  rintro e w1 ⟨rfl, hw1⟩
  rw [hw1]
  clear hw1
  go_wp2_with fail
  refine (pairs_any q items w0 _ HS.out).mono ?_
  rintro e w2 ⟨pv, qs, rfl, hown, hps, hB⟩
  obtain ⟨ap, cp, ep⟩ := owns_form hown
  subst ep
  have hql : qs.length = (pathsOf items).length := by rw [hps.1]; unfold pathsOf; rw [List.length_map]
  have hll := pathsOf_len items
  have Hown : Hid (w2.ownsRow w.heap.size 94 1 (.slice ap qs.length cp) qs.length (qs.map ptr)) := hown
  have HP : Hid (PairsAt w qs (pairsOf items)) := hps
  have HB : Hid (Below w.heap.size w w2) := hB
  have hz2' := hB.size
  clear hown hps hB
  go_wp2_with fail
  go_loopw [3, 15] (fun lv i wr => ∃ k : Nat, k ≤ qs.length ∧ i = .int .i64 k ∧ ∃ ps : List ByteArray, Hid (ps = (pathsOf items).take k) ∧ Hid (wr.ownsRow w2.heap.size 9 1 lv ps.length (ps.map .string)) ∧ Hid (Below w2.heap.size w2 wr)) (fun _ i _ => qs.length - (intOf i).toNat)
  case atStart => exact ⟨0, Nat.zero_le _, rfl, [], rfl, World.ownsRow_nil _ _ _ _, Below.refl _ _⟩
  case round =>
    obtain ⟨k, hk, rfl, ps, hps, hown, hbw⟩ := hrel
    obtain ⟨al, cl, el⟩ := owns_form hown.out
    subst el
    have hzr := hbw.out.size
    have hlt : ps.length ≤ 4000 := by have := hps.out; rw [this, List.length_take]; omega
    by_cases hkl : k < qs.length
    · have hkl2 : k < (pairsOf items).length := by rw [← HP.out.1]; exact hkl
      obtain ⟨g, hg, hg1, hg2, hgc⟩ := rowv_cell Hown.out k (ptr qs[k]) (ptrs_at (List.getElem?_eq_getElem hkl))
      subst hg
      have hgr := (hbw.out.cell (p := ⟨g, k, none⟩) hg2).trans hgc
      obtain ⟨p1, p2, p3, _⟩ := HP.out.2 k qs[k] (pairsOf items)[k] (List.getElem?_eq_getElem hkl) (List.getElem?_eq_getElem hkl2)
      have hc3 := ((HB.out.trans (hbw.out.mono hz2')).cell (p := ⟨qs[k], 3, none⟩) p1).trans p3
      have hsz1 := HZ.out (pairsOf items)[k] (List.getElem_mem hkl2)
      have hnx : Hid (ps ++ [jn (pairsOf items)[k].full] = (pathsOf items).take (k + 1)) := by
        unfold Hid
        rw [List.take_add_one, pathsOf_at (List.getElem?_eq_getElem hkl2), hps.out]
        rfl
      clear hgc p2 p3 hps
      generalize qs[k] = q1 at *
      generalize (pairsOf items)[k] = t at *
      go_wp2_with fail
      refine (clone_any2 (jn t.full) _ hsz1).mono ?_
      rintro e w5 ⟨rfl, hB5⟩
      have hown5 : Hid (w5.ownsRow w2.heap.size 9 1 (.slice al ps.length cl) ps.length (ps.map .string)) := owns_frame hown.out (fun k k1 k2 => hB5.block k k2)
      have hb5 : Hid (Below w2.heap.size w2 w5) := hbw.out.trans (hB5.mono hzr)
      have hz5 : w2.heap.size ≤ w5.heap.size := hb5.out.size
      clear hown hbw hB5
      go_wp2_with (at_builtin; refine wpList_append_own_at _ rfl (.tmp 19) (.tmp 25) 38 rfl w2.heap.size 9 i0 (.string ⟨#[]⟩) 1 16 Tryz.underlying38 hi hz0 hz1 hz2 rfl (by decide) _ _ _ rfl (hown5.out.alloc _) ⟨w5.heap.size, 0, none⟩ 1 1 [.string (jn t.full)] rfl rfl (cell_one_new _ _ _) (by intro u hu; simp at hu; subst hu; rfl) (by unfold maxLen; omega) (by omega) (by simp; omega) ?_; intro v1 w6 hown6 hgrow6 hnil6 hat6; refine Hid.out ?_)
      have hb6 : Hid (Below w2.heap.size w2 w6) := (hb5.out.alloc hz5 _).grown hgrow6 (by simp; omega) (fun k hk => (hown5.out.lt k hk).1)
      have hown7 : Hid (w6.ownsRow w2.heap.size 9 1 v1 (ps ++ [jn t.full]).length ((ps ++ [jn t.full]).map .string)) := by
        unfold Hid
        simpa using hown6
      clear hown6 hgrow6 hnil6 hat6
      unfold Hid
      go_wp2_with fail
      go_roundw
      case rel => exact ⟨k + 1, by omega, by go_num, _, hnx, hown7, hb6⟩
      case measure => simp [intOf]; omega
    · have Fin : Hid (wr.ownsRow w2.heap.size 9 1 (.slice al ps.length cl) (pathsOf items).length ((pathsOf items).map .string)) := by
        have h1 := hown.out
        have h2 := hps.out
        rw [show (pathsOf items).take k = pathsOf items from List.take_of_length_le (by omega)] at h2
        unfold Hid
        rw [h2] at h1 ⊢
        exact h1
      have HBF : Hid (Below w.heap.size w wr) := HB.out.trans (hbw.out.mono hz2')
      clear hown hbw hps
      go_wp2_with fail
      go_ret
      exact ⟨_, rfl, owns_lower Fin.out hz2', HBF.out⟩
end Go.Proofs.YtdebjhdafnpfkaaGreatDoor

namespace Go.Proofs.YtdebjhdafnpfkaaGreatDoor
open Go.ChangeShapes Go.WideShapes Go.ChangeAt Go.RowKit
set_option linter.unusedVariables false
set_option linter.unusedSimpArgs false
theorem pval_num {d lo hi : Nat} {w : World} {v : Value} {x : V} (h : PVal d lo hi w v x) (hk : x.k = 110) : v = .iface 240 (.int .i64 x.n) := by
  cases d with
  | zero => exact h.elim
  | succ d =>
    rcases h with ⟨e, _⟩ | ⟨_, h⟩ | ⟨e, _⟩ | ⟨e, _⟩ | ⟨e, _⟩
    · omega
    · exact h
    · omega
    · omega
    · omega
theorem m_flat_num (v : Value) (w : World) : (Go.method 402 240 v "Flat").run Tryz.prog w = .ok (233, v) w := by kernel_rfl
theorem ahead_num (v : Value) (w : World) : (nilAhead 402 240 v "Flat").run Tryz.prog w = .ok (some false) w := by kernel_rfl
end Go.Proofs.YtdebjhdafnpfkaaGreatDoor

namespace Go.Proofs.YtdebjhdafnpfkaaGreatDoor
open Go.ChangeShapes Go.WideShapes Go.ChangeAt Go.RowKit
set_option linter.unusedVariables false
set_option linter.unusedSimpArgs false
theorem Its.below {w w' : World} {b : Nat} {it : Value} {cs : List (List Value)} {items : List It} (h : Its w b it cs items) (hb : Below w.heap.size w w') : Its w' b it cs items := by
  refine ⟨h.1, owns5_frame h.2.1 (fun k _ k2 => hb.block k k2), fun i c t hc ht => ?_⟩
  obtain ⟨lo, hi, h1, h2, h3, h4⟩ := h.2.2 i c t hc ht
  exact ⟨lo, hi, h1, Nat.le_trans h2 hb.size, h3, h4.frame (fun k _ k2 => hb.block k (by omega))⟩
end Go.Proofs.YtdebjhdafnpfkaaGreatDoor

namespace Go.Proofs.YtdebjhdafnpfkaaGreatDoor
open Go.ChangeShapes Go.WideShapes Go.ChangeAt Go.RowKit
set_option linter.unusedVariables false
set_option linter.unusedSimpArgs false
theorem ItOk_full {items : List It} (h : ItsOk items) : ∀ t ∈ items, t.k = 61 → (jn t.full).size ≤ 1000000 := by
  intro t ht hk
  have := ((h t ht).p hk).2.2
  omega
end Go.Proofs.YtdebjhdafnpfkaaGreatDoor

namespace Go.Proofs.YtdebjhdafnpfkaaGreatDoor
open Go.ChangeShapes Go.WideShapes Go.ChangeAt Go.RowKit
set_option linter.unusedVariables false
set_option linter.unusedSimpArgs false
theorem Both.below {s : ByteArray} {w0 w w' : World} {o : Nat} (h : Both s w0 w o) (hb : Below w.heap.size w w') : Both s w0 w' o := by
  obtain ⟨d, r, q, it, cs, c0, c1, cd, hsh, hrd, hits, h1, h2, h3, h4⟩ := h
  have hz := hb.size
  exact ⟨d, r, q, it, cs, (hb.cell (p := ⟨o, 0, none⟩) h4).trans c0, (hb.cell (p := ⟨o, 1, none⟩) h4).trans c1, (hb.cell (p := ⟨d, 0, none⟩) (by simp only; omega)).trans cd, hsh.frame (Nat.le_refl _) hz (fun k _ k2 => hb.block k k2), hrd.of_block (hb.block r (by omega)) hz, hits.below hb, h1, h2, h3, by omega⟩
end Go.Proofs.YtdebjhdafnpfkaaGreatDoor

namespace Go.Proofs.YtdebjhdafnpfkaaGreatDoor
open Go.ChangeShapes Go.WideShapes Go.ChangeAt Go.RowKit
set_option linter.unusedVariables false
set_option linter.unusedSimpArgs false
theorem asl_num (v : Value) (w : World) : (Instr.typeAssert (.iface 240 v) 99 208 true).run Tryz.prog w = .ok (.tuple #[.slice none 0 0, .bool false]) w := by kernel_rfl
theorem enters_num (args : Array Value) (w : World) : (callFunc 233 args).run Tryz.prog w = .ok (.enter 233 args) w := (enters_of Tryz.func233 (by kernel_rfl) rfl) args w
theorem sheet_ents {w0 w : World} {q : Nat} {items : List It} (h : SheetOk w0 w q items) : items.length ≤ 4000 ∧ q < w.heap.size ∧ ∃ b ev es, w.cell? ⟨q, 0, none⟩ = some ev ∧ w.ownsRow (b + 1) 147 1 ev es.length es ∧ EntsAt (fun k => k ≠ w.heap.size) none w es items := by
  obtain ⟨_, hlen, hq, b, nb, hv, pv, ev, es, hb0, hbq, hnb, hc, hpt⟩ := h
  refine ⟨hlen, hq, b, ev, es, hc, hpt.o6, hpt.len, fun i v t h1 h2 => ?_⟩
  obtain ⟨S, hS, he⟩ := hpt.ents i v t h1 h2
  have hbn := hpt.bnd
  exact ⟨S, fun k hk => ⟨by have := (hS k hk).2.1; omega, by simp, by have := (hS k hk).2.1; show k ≠ w.heap.size; omega⟩, he⟩
end Go.Proofs.YtdebjhdafnpfkaaGreatDoor

namespace Go.Proofs.YtdebjhdafnpfkaaGreatDoor
set_option linter.unusedVariables false
/-- The text whose layout the document has. -/
def kS : ByteArray := ⟨#[98, 32, 61, 32, 49, 10, 110, 97, 109, 101, 61, 32, 34, 120, 34, 35, 32, 105, 116, 10, 10, 10, 91, 32, 116, 32, 93, 10, 99, 61, 91, 49, 44, 43, 50, 44, 93, 10]⟩
def nV (n : Int) : V := ⟨110, n, ⟨#[]⟩, [], []⟩
def k0 : It := ⟨61, [⟨#[98]⟩], [⟨#[98]⟩], nV 1, ⟨#[]⟩⟩
def k1 : It := ⟨61, [⟨#[110, 97, 109, 101]⟩], [⟨#[110, 97, 109, 101]⟩], ⟨115, 0, ⟨#[120]⟩, [], []⟩, ⟨#[35, 32, 105, 116]⟩⟩
def k4 : It := ⟨91, [⟨#[116]⟩], [], V0, ⟨#[]⟩⟩
def k5 : It := ⟨61, [⟨#[99]⟩], [⟨#[116]⟩, ⟨#[99]⟩], ⟨108, 0, ⟨#[]⟩, [nV 1, nV 2], []⟩, ⟨#[]⟩⟩
def kE : It := ⟨32, [], [], V0, ⟨#[]⟩⟩
theorem readK : (rread kS).2 = [k0, k1, kE, kE, k4, k5] := by kernel_rfl
theorem readKe : (rread kS).1.e = 0 := by kernel_rfl
end Go.Proofs.YtdebjhdafnpfkaaGreatDoor

namespace Go.Proofs.YtdebjhdafnpfkaaGreatDoor
open Go.ChangeShapes Go.WideShapes Go.ChangeAt Go.RowKit
set_option linter.unusedVariables false
set_option linter.unusedSimpArgs false
def numS (n : Int) : ByteArray := ⟨#[UInt8.ofNat (48 + n.toNat)]⟩
theorem dec_small (n : Nat) (h : n < 10) : Lib.decDigits n = [UInt8.ofNat (48 + n)] := by
  unfold Lib.decDigits
  simp [h]
def flK (t : It) : ByteArray := if t.v.k = 110 then numS t.v.n else if t.v.k = 115 then (⟨#[34]⟩ : ByteArray) ++ t.v.s ++ (⟨#[34]⟩ : ByteArray) else listS (t.v.l.map (fun u => numS u.n))
theorem m_flat_text (v : Value) (w : World) : (Go.method 402 219 v "Flat").run Tryz.prog w = .ok (227, v) w := by kernel_rfl
theorem ahead_text (v : Value) (w : World) : (nilAhead 402 219 v "Flat").run Tryz.prog w = .ok (some false) w := by kernel_rfl
theorem m_flat_list (v : Value) (w : World) : (Go.method 402 208 v "Flat").run Tryz.prog w = .ok (225, v) w := by kernel_rfl
theorem ahead_list (v : Value) (w : World) : (nilAhead 402 208 v "Flat").run Tryz.prog w = .ok (some false) w := by kernel_rfl
theorem enters_text (args : Array Value) (w : World) : (callFunc 227 args).run Tryz.prog w = .ok (.enter 227 args) w := (enters_of Tryz.func227 (by kernel_rfl) rfl) args w
theorem enters_list (args : Array Value) (w : World) : (callFunc 225 args).run Tryz.prog w = .ok (.enter 225 args) w := (enters_of Tryz.func225 (by kernel_rfl) rfl) args w
theorem asl_text (v : Value) (w : World) : (Instr.typeAssert (.iface 219 v) 99 208 true).run Tryz.prog w = .ok (.tuple #[.slice none 0 0, .bool false]) w := by kernel_rfl
theorem asl_list (v : Value) (w : World) : (Instr.typeAssert (.iface 208 v) 99 208 true).run Tryz.prog w = .ok (.tuple #[v, .bool true]) w := by kernel_rfl
theorem flats_num (b B : Nat) (w0 : World) (n : Nat) (hn : n < 10) : FlatsTo b B w0 (.iface 240 (.int .i64 n)) (numS n) := ⟨_, _, _, rfl, m_flat_num _, ahead_num _, enters_num, fun w _ _ => by
  have h := num_small n (by omega) w
  rw [dec_small n hn] at h
  exact h⟩
theorem flats_x (b B : Nat) (w0 : World) : FlatsTo b B w0 (.iface 219 (.string ⟨#[120]⟩)) ⟨#[34, 120, 34]⟩ := ⟨_, _, _, rfl, m_flat_text _, ahead_text _, enters_text, fun w _ _ => text_one 120 w (by decide) (by decide) (by decide) (by decide)⟩
theorem pval_text {d lo hi : Nat} {w : World} {v : Value} {x : V} (h : PVal d lo hi w v x) (hk : x.k = 115) : v = .iface 219 (.string x.s) := by
  cases d with
  | zero => exact h.elim
  | succ d =>
    rcases h with ⟨_, h⟩ | ⟨e, _⟩ | ⟨e, _⟩ | ⟨e, _⟩ | ⟨e, _⟩
    · exact h
    · omega
    · omega
    · omega
    · omega
theorem flats_list (b B lo hi : Nat) (w : World) (pv : Value) (h : PVal 7 lo hi w pv ⟨108, 0, ⟨#[]⟩, [nV 1, nV 2], []⟩) (hb : ∀ k, lo ≤ k → k < hi → k < B ∧ k ≠ b) :
    FlatsTo b B w pv (listS [numS 1, numS 2]) ∧ ∃ lv ad cap, pv = .iface 208 lv ∧ lv = .slice ad 2 cap := by
  rcases h with ⟨e, _⟩ | ⟨e, _⟩ | ⟨e, _⟩ | ⟨_, lv, vs, rfl, hrow, hel⟩ | ⟨e, _⟩
  · exact absurd e (by decide)
  · exact absurd e (by decide)
  · exact absurd e (by decide)
  · obtain ⟨ad, cap, hlv⟩ := ownsS_form hrow.1
    refine ⟨⟨_, _, _, rfl, m_flat_list _, ahead_list _, enters_list, fun w' hk hBw => ?_⟩, lv, ad, cap, rfl, hlv⟩
    have hrow' : w'.ownsRow lo 99 1 lv 2 vs := ownsS_frame hrow.1 (fun k k1 _ k3 => by
      have := hb k k1 (hrow.2 k k3)
      exact hk.block k this.1 this.2)
    refine list_flat b B w lv 2 vs [numS 1, numS 2] w' (SubRow.of hrow') rfl (by decide) (by decide) hk hBw (fun i v o hv ho => ?_) (by decide)
    match i, hv, ho with
    | 0, hv, ho =>
      have e1 := pval_num (hel 0 v (nV 1) hv rfl) rfl
      subst e1
      simp only [List.getElem?_cons_zero, Option.some.injEq] at ho
      subst ho
      exact flats_num b B w 1 (by decide)
    | 1, hv, ho =>
      have e1 := pval_num (hel 1 v (nV 2) hv rfl) rfl
      subst e1
      simp only [List.getElem?_cons_succ, List.getElem?_cons_zero, Option.some.injEq] at ho
      subst ho
      exact flats_num b B w 2 (by decide)
    | i + 2, hv, ho => simp at ho
  · exact absurd e (by decide)
theorem pairLay_of (b B q1 : Nat) (w : World) (wd : Int) (room : Nat) (fl : It → ByteArray) (t : It) (S : Nat → Prop) (h : PEnt S w (pairV q1) t) (hS : ∀ k, S k → k < B ∧ k ≠ b) (hk : t.k = 61)
    (hv : ∀ pv lo hi, (∀ k, lo ≤ k → k < hi → k < B ∧ k ≠ b) → PVal 7 lo hi w pv t.v → FlatsTo b B w pv (fl t) ∧ ∃ ad n cap ok, (∀ w, (Instr.typeAssert pv 99 208 true).run Tryz.prog w = .ok (.tuple #[.slice ad n cap, .bool ok]) w) ∧ (n = 0 ∨ ((pairS fl room t).size : Int) ≤ wd))
    (zp : (jn t.path).size ≤ 100) (zr : t.rem.size ≤ 100000) (zf : (fl t).size ≤ 1000000) : PairLay b B w wd room fl q1 t := by
  have h0 := h
  obtain ⟨q', sq, c0, c1, hF, hc⟩ := h
  rcases hc with ⟨hk2, _⟩ | ⟨hk2, e1, c2, c3, pv, lo, hi, c4, hlo, hpv⟩ | ⟨hk2, _⟩
  · omega
  · have eq1 : q' = q1 := by
      simp only [pairV, Value.iface.injEq, Value.pointer.injEq, Option.some.injEq, Addr.mk.injEq, and_true, true_and] at e1
      exact e1.symm
    subst eq1
    obtain ⟨f1, f2⟩ := hv pv lo hi (fun k k1 k2 => hS k (hlo k k1 k2).1) hpv
    exact ⟨(hS _ sq).1, (hS _ sq).2, c2, ⟨S, hS, h0⟩, ⟨pv, c4, f1, f2⟩, zp, zr, zf⟩
  · omega
theorem pl_k0 (b B q1 : Nat) (w : World) (room : Nat) (S : Nat → Prop) (h : PEnt S w (pairV q1) k0) (hS : ∀ k, S k → k < B ∧ k ≠ b) : PairLay b B w 80 room flK q1 k0 :=
  pairLay_of b B q1 w 80 room flK k0 S h hS rfl (fun pv lo hi _ hpv => by
    have e := pval_num hpv rfl
    subst e
    exact ⟨flats_num b B w 1 (by decide), none, 0, 0, false, asl_num _, .inl rfl⟩) (by decide) (by decide) (by decide)
theorem pl_k1 (b B q1 : Nat) (w : World) (room : Nat) (S : Nat → Prop) (h : PEnt S w (pairV q1) k1) (hS : ∀ k, S k → k < B ∧ k ≠ b) : PairLay b B w 80 room flK q1 k1 :=
  pairLay_of b B q1 w 80 room flK k1 S h hS rfl (fun pv lo hi _ hpv => by
    have e := pval_text hpv rfl
    subst e
    exact ⟨flats_x b B w, none, 0, 0, false, asl_text _, .inl rfl⟩) (by decide) (by decide) (by decide)
theorem pl_k5 (b B q1 : Nat) (w : World) (S : Nat → Prop) (h : PEnt S w (pairV q1) k5) (hS : ∀ k, S k → k < B ∧ k ≠ b) : PairLay b B w 80 (roomOf [k5]) flK q1 k5 :=
  pairLay_of b B q1 w 80 _ flK k5 S h hS rfl (fun pv lo hi hb hpv => by
    obtain ⟨f1, lv, ad, cap, e1, e2⟩ := flats_list b B lo hi w pv hpv hb
    subst e1 e2
    exact ⟨f1, ad, 2, cap, true, asl_list _, .inr (by decide)⟩) (by decide) (by decide) (by decide)
end Go.Proofs.YtdebjhdafnpfkaaGreatDoor
