import Derived.Test.YtdebjhdafnpfkabGreatDoorK20
import Derived.Test.YtdebjhdafnpfkabGreatDoorK19
import Derived.Test.YtdebjhdafnpfkabGreatDoorK15
import Derived.Test.YtdebjhdafnpfkabGreatDoorK07
import Derived.Deep.Draws
import Derived.Deep.RegionLaw
import Derived.Test.YtdebjhdafnpfkabGreatDoorK03
import Derived.Test.YtdebjhdafnpfkabGreatDoorK01
import Derived.Test.YtdebjhdafnpfkabGreatDoorK24
import Derived.Test.YtdebjhdafnpfkabGreatDoorK02
import Derived.Test.YtdebjhdafnpfkabGreatDoorK34
import Derived.Test.YtdebjhdafnpfkabGreatDoorK33
namespace Go.Proofs.YtdebjhdafnpfkabGreatDoor
open Go.ChangeShapes Go.WideShapes Go.ChangeAt Go.RowKit
set_option linter.unusedVariables false
set_option linter.unusedSimpArgs false
theorem open_ok (d q : Nat) (w : World) (h : w.cell? ⟨d, 0, none⟩ = some (ptr q)) : Calls Tryz.prog 19 #[ptr d] w fun e w' => e = .returned .nilIface ∧ w' = w := by
  go_enter Tryz.func19, Tryz.ntmps19
  go_wp2
  go_ret
  exact ⟨rfl, rfl⟩
theorem clone_any2 (s : ByteArray) (w : World) (hs : s.size ≤ 1000000) : Calls Tryz.prog 24 #[.string s] w fun e w' => e = .returned (.string s) ∧ Below w.heap.size w w' := by
  go_enter Tryz.func24, Tryz.ntmps24
  go_wp2_with fail
  refine (Tryz.stringslite_Clone s _ (by omega)).mono ?_
  rintro e w1 ⟨rfl, hB⟩
  go_wp2_with fail
  go_ret
  exact ⟨rfl, hB⟩
theorem pathsOf_at {items : List It} {i : Nat} {t : It} (h : (pairsOf items)[i]? = some t) : (pathsOf items)[i]? = some (jn t.full) := by
  unfold pathsOf
  rw [List.getElem?_map, h]
  rfl
theorem ptrs_at {qs : List Nat} {i q : Nat} (h : qs[i]? = some q) : (qs.map ptr)[i]? = some (ptr q) := by
  rw [List.getElem?_map, h]
  rfl
set_option maxRecDepth 100000 in
set_option maxHeartbeats 4000000 in
/-- The program's Paths. -/
theorem paths_any (d q : Nat) (items : List It) (w0 w : World) (hd : w.cell? ⟨d, 0, none⟩ = some (ptr q)) (hsh : SheetOk w0 w q items) (hsz : ∀ t ∈ items, t.k = 61 → (jn t.full).size ≤ 1000000) :
    Calls Tryz.prog 15 #[ptr d] w fun e w' => ∃ lv, e = .returned lv ∧ w'.ownsRow w.heap.size 9 1 lv (pathsOf items).length ((pathsOf items).map .string) ∧ Below w.heap.size w w' := by
  obtain ⟨i0, hi, hz0, hz1, hz2⟩ := info_parts info_string
  have hlen := hsh.2.1
  have HS : Hid (SheetOk w0 w q items) := hsh
  have HZ : Hid (∀ t ∈ pairsOf items, (jn t.full).size ≤ 1000000) := fun t ht => hsz t (List.mem_filter.1 ht).1 (of_decide_eq_true (List.mem_filter.1 ht).2)
  clear hsh hsz
  go_enter Tryz.func15, Tryz.ntmps15
  go_wp2_with fail
  refine (open_ok d q _ hd).mono ?_
  rintro e w1 ⟨rfl, hw1⟩
  rw [hw1]
  clear hw1
  go_wp2_with fail
  refine (pairs_any q items w0 _ HS.out).mono ?_
  rintro e w2 ⟨pv, qs, rfl, hown, hps, hB⟩
  obtain ⟨ap, cp, ep⟩ := owns_form hown
  subst ep
  have hql : qs.length = (pathsOf items).length := by rw [hps.1]; unfold pathsOf; rw [List.length_map]
  have hll := pathsOf_len items
  have Hown : Hid (w2.ownsRow w.heap.size 61 1 (.slice ap qs.length cp) qs.length (qs.map ptr)) := hown
  have HP : Hid (PairsAt w qs (pairsOf items)) := hps
  have HB : Hid (Below w.heap.size w w2) := hB
  have hz2' := hB.size
  clear hown hps hB
  go_wp2_with fail
  go_loopw [3, 15] (fun lv i wr => ∃ k : Nat, k ≤ qs.length ∧ i = .int .i64 k ∧ ∃ ps : List ByteArray, Hid (ps = (pathsOf items).take k) ∧ Hid (wr.ownsRow w2.heap.size 9 1 lv ps.length (ps.map .string)) ∧ Hid (Below w2.heap.size w2 wr)) (fun _ i _ => qs.length - (intOf i).toNat)
  case atStart => exact ⟨0, Nat.zero_le _, rfl, [], rfl, World.ownsRow_nil _ _ _ _, Below.refl _ _⟩
  case round =>
    obtain ⟨k, hk, rfl, ps, hps, hown, hbw⟩ := hrel
    obtain ⟨al, cl, el⟩ := owns_form hown.out
    subst el
    have hzr := hbw.out.size
    have hlt : ps.length ≤ 4000 := by have := hps.out; rw [this, List.length_take]; omega
    by_cases hkl : k < qs.length
    · have hkl2 : k < (pairsOf items).length := by rw [← HP.out.1]; exact hkl
      obtain ⟨g, hg, hg1, hg2, hgc⟩ := rowv_cell Hown.out k (ptr qs[k]) (ptrs_at (List.getElem?_eq_getElem hkl))
      subst hg
      have hgr := (hbw.out.cell (p := ⟨g, k, none⟩) hg2).trans hgc
      obtain ⟨p1, p2, p3, _⟩ := HP.out.2 k qs[k] (pairsOf items)[k] (List.getElem?_eq_getElem hkl) (List.getElem?_eq_getElem hkl2)
      have hc3 := ((HB.out.trans (hbw.out.mono hz2')).cell (p := ⟨qs[k], 3, none⟩) p1).trans p3
      have hsz1 := HZ.out (pairsOf items)[k] (List.getElem_mem hkl2)
      have hnx : Hid (ps ++ [jn (pairsOf items)[k].full] = (pathsOf items).take (k + 1)) := by
        unfold Hid
        rw [List.take_add_one, pathsOf_at (List.getElem?_eq_getElem hkl2), hps.out]
        rfl
      clear hgc p2 p3 hps
      generalize qs[k] = q1 at *
      generalize (pairsOf items)[k] = t at *
      go_wp2_with fail
      refine (clone_any2 (jn t.full) _ hsz1).mono ?_
      rintro e w5 ⟨rfl, hB5⟩
      have hown5 : Hid (w5.ownsRow w2.heap.size 9 1 (.slice al ps.length cl) ps.length (ps.map .string)) := owns_frame hown.out (fun k k1 k2 => hB5.block k k2)
      have hb5 : Hid (Below w2.heap.size w2 w5) := hbw.out.trans (hB5.mono hzr)
      have hz5 : w2.heap.size ≤ w5.heap.size := hb5.out.size
      clear hown hbw hB5
      go_wp2_with (at_builtin; refine wpList_append_own_at _ rfl (.tmp 19) (.tmp 25) 25 rfl w2.heap.size 9 i0 (.string ⟨#[]⟩) 1 16 Tryz.underlying25 hi hz0 hz1 hz2 rfl (by decide) _ _ _ rfl (hown5.out.alloc _) ⟨w5.heap.size, 0, none⟩ 1 1 [.string (jn t.full)] rfl rfl (cell_one_new _ _ _) (by intro u hu; simp at hu; subst hu; rfl) (by unfold maxLen; omega) (by omega) (by simp; omega) ?_; intro v1 w6 hown6 hgrow6 hnil6 hat6; refine Hid.out ?_)
      have hb6 : Hid (Below w2.heap.size w2 w6) := (hb5.out.alloc hz5 _).grown hgrow6 (by simp; omega) (fun k hk => (hown5.out.lt k hk).1)
      have hown7 : Hid (w6.ownsRow w2.heap.size 9 1 v1 (ps ++ [jn t.full]).length ((ps ++ [jn t.full]).map .string)) := by
        unfold Hid
        simpa using hown6
      clear hown6 hgrow6 hnil6 hat6
      unfold Hid
      go_wp2_with fail
      go_roundw
      case rel => exact ⟨k + 1, by omega, by go_num, _, hnx, hown7, hb6⟩
      case measure => simp [intOf]; omega
    · have Fin : Hid (wr.ownsRow w2.heap.size 9 1 (.slice al ps.length cl) (pathsOf items).length ((pathsOf items).map .string)) := by
        have h1 := hown.out
        have h2 := hps.out
        rw [show (pathsOf items).take k = pathsOf items from List.take_of_length_le (by omega)] at h2
        unfold Hid
        rw [h2] at h1 ⊢
        exact h1
      have HBF : Hid (Below w.heap.size w wr) := HB.out.trans (hbw.out.mono hz2')
      clear hown hbw hps
      go_wp2_with fail
      go_ret
      exact ⟨_, rfl, owns_lower Fin.out hz2', HBF.out⟩
end Go.Proofs.YtdebjhdafnpfkabGreatDoor

namespace Go.Proofs.YtdebjhdafnpfkabGreatDoor
open Go.ChangeShapes Go.WideShapes Go.ChangeAt Go.RowKit
set_option linter.unusedVariables false
set_option linter.unusedSimpArgs false
theorem pval_num {d lo hi : Nat} {w : World} {v : Value} {x : V} (h : PVal d lo hi w v x) (hk : x.k = 110) : v = .iface 197 (.int .i64 x.n) := by
  cases d with
  | zero => exact h.elim
  | succ d =>
    rcases h with ⟨e, _⟩ | ⟨_, h⟩ | ⟨e, _⟩ | ⟨e, _⟩ | ⟨e, _⟩
    · omega
    · exact h
    · omega
    · omega
    · omega
theorem m_flat_num (v : Value) (w : World) : (Go.method 361 197 v "Flat").run Tryz.prog w = .ok (183, v) w := by kernel_rfl
theorem ahead_num (v : Value) (w : World) : (nilAhead 361 197 v "Flat").run Tryz.prog w = .ok (some false) w := by kernel_rfl
end Go.Proofs.YtdebjhdafnpfkabGreatDoor

namespace Go.Proofs.YtdebjhdafnpfkabGreatDoor
open Go.ChangeShapes Go.WideShapes Go.ChangeAt Go.RowKit
set_option linter.unusedVariables false
set_option linter.unusedSimpArgs false
theorem ItOk_full {items : List It} (h : ItsOk items) : ∀ t ∈ items, t.k = 61 → (jn t.full).size ≤ 1000000 := by
  intro t ht hk
  have := ((h t ht).p hk).2.2
  omega
end Go.Proofs.YtdebjhdafnpfkabGreatDoor

namespace Go.Proofs.YtdebjhdafnpfkabGreatDoor
open Go.ChangeShapes Go.WideShapes Go.ChangeAt Go.RowKit
set_option linter.unusedVariables false
set_option linter.unusedSimpArgs false
theorem asl_num (v : Value) (w : World) : (Instr.typeAssert (.iface 197 v) 66 164 true).run Tryz.prog w = .ok (.tuple #[.slice none 0 0, .bool false]) w := by kernel_rfl
theorem enters_num (args : Array Value) (w : World) : (callFunc 183 args).run Tryz.prog w = .ok (.enter 183 args) w := (enters_of Tryz.func183 (by kernel_rfl) rfl) args w
theorem sheet_ents {w0 w : World} {q : Nat} {items : List It} (h : SheetOk w0 w q items) : items.length ≤ 4000 ∧ q < w.heap.size ∧ ∃ b ev es, w.cell? ⟨q, 0, none⟩ = some ev ∧ w.ownsRow (b + 1) 93 1 ev es.length es ∧ EntsAt (fun k => k ≠ w.heap.size) none w es items := by
  obtain ⟨_, hlen, hq, b, nb, hv, pv, ev, es, hb0, hbq, hnb, hc, hpt⟩ := h
  refine ⟨hlen, hq, b, ev, es, hc, hpt.o6, hpt.len, fun i v t h1 h2 => ?_⟩
  obtain ⟨S, hS, he⟩ := hpt.ents i v t h1 h2
  have hbn := hpt.bnd
  exact ⟨S, fun k hk => ⟨by have := (hS k hk).2.1; omega, by simp, by have := (hS k hk).2.1; show k ≠ w.heap.size; omega⟩, he⟩
end Go.Proofs.YtdebjhdafnpfkabGreatDoor

namespace Go.Proofs.YtdebjhdafnpfkabGreatDoor
set_option linter.unusedVariables false
/-- The text whose layout the document has. -/
def kS : ByteArray := ⟨#[98, 32, 61, 32, 49, 10, 110, 97, 109, 101, 61, 32, 34, 120, 34, 35, 32, 105, 116, 10, 10, 10, 91, 32, 116, 32, 93, 10, 99, 61, 91, 49, 44, 43, 50, 44, 93, 10]⟩
def nV (n : Int) : V := ⟨110, n, ⟨#[]⟩, [], []⟩
def k0 : It := ⟨61, [⟨#[98]⟩], [⟨#[98]⟩], nV 1, ⟨#[]⟩⟩
def k1 : It := ⟨61, [⟨#[110, 97, 109, 101]⟩], [⟨#[110, 97, 109, 101]⟩], ⟨115, 0, ⟨#[120]⟩, [], []⟩, ⟨#[35, 32, 105, 116]⟩⟩
def k4 : It := ⟨91, [⟨#[116]⟩], [], V0, ⟨#[]⟩⟩
def k5 : It := ⟨61, [⟨#[99]⟩], [⟨#[116]⟩, ⟨#[99]⟩], ⟨108, 0, ⟨#[]⟩, [nV 1, nV 2], []⟩, ⟨#[]⟩⟩
def kE : It := ⟨32, [], [], V0, ⟨#[]⟩⟩
theorem readK : (rread kS).2 = [k0, k1, kE, kE, k4, k5] := by kernel_rfl
theorem readKe : (rread kS).1.e = 0 := by kernel_rfl
end Go.Proofs.YtdebjhdafnpfkabGreatDoor

namespace Go.Proofs.YtdebjhdafnpfkabGreatDoor
open Go.ChangeShapes Go.WideShapes Go.ChangeAt Go.RowKit
set_option linter.unusedVariables false
set_option linter.unusedSimpArgs false
def numS (n : Int) : ByteArray := ⟨#[UInt8.ofNat (48 + n.toNat)]⟩
theorem dec_small (n : Nat) (h : n < 10) : Lib.decDigits n = [UInt8.ofNat (48 + n)] := by
  unfold Lib.decDigits
  simp [h]
def flK (t : It) : ByteArray := if t.v.k = 110 then numS t.v.n else if t.v.k = 115 then (⟨#[34]⟩ : ByteArray) ++ t.v.s ++ (⟨#[34]⟩ : ByteArray) else listS (t.v.l.map (fun u => numS u.n))
theorem m_flat_text (v : Value) (w : World) : (Go.method 361 176 v "Flat").run Tryz.prog w = .ok (177, v) w := by kernel_rfl
theorem ahead_text (v : Value) (w : World) : (nilAhead 361 176 v "Flat").run Tryz.prog w = .ok (some false) w := by kernel_rfl
theorem m_flat_list (v : Value) (w : World) : (Go.method 361 164 v "Flat").run Tryz.prog w = .ok (175, v) w := by kernel_rfl
theorem ahead_list (v : Value) (w : World) : (nilAhead 361 164 v "Flat").run Tryz.prog w = .ok (some false) w := by kernel_rfl
theorem enters_text (args : Array Value) (w : World) : (callFunc 177 args).run Tryz.prog w = .ok (.enter 177 args) w := (enters_of Tryz.func177 (by kernel_rfl) rfl) args w
theorem enters_list (args : Array Value) (w : World) : (callFunc 175 args).run Tryz.prog w = .ok (.enter 175 args) w := (enters_of Tryz.func175 (by kernel_rfl) rfl) args w
theorem asl_text (v : Value) (w : World) : (Instr.typeAssert (.iface 176 v) 66 164 true).run Tryz.prog w = .ok (.tuple #[.slice none 0 0, .bool false]) w := by kernel_rfl
theorem asl_list (v : Value) (w : World) : (Instr.typeAssert (.iface 164 v) 66 164 true).run Tryz.prog w = .ok (.tuple #[v, .bool true]) w := by kernel_rfl
theorem flats_num (b B : Nat) (w0 : World) (n : Nat) (hn : n < 10) : FlatsTo b B w0 (.iface 197 (.int .i64 n)) (numS n) := ⟨_, _, _, rfl, m_flat_num _, ahead_num _, enters_num, fun w _ _ => by
  have h := num_small n (by omega) w
  rw [dec_small n hn] at h
  exact h⟩
theorem flats_x (b B : Nat) (w0 : World) : FlatsTo b B w0 (.iface 176 (.string ⟨#[120]⟩)) ⟨#[34, 120, 34]⟩ := ⟨_, _, _, rfl, m_flat_text _, ahead_text _, enters_text, fun w _ _ => text_one 120 w (by decide) (by decide) (by decide) (by decide)⟩
theorem pval_text {d lo hi : Nat} {w : World} {v : Value} {x : V} (h : PVal d lo hi w v x) (hk : x.k = 115) : v = .iface 176 (.string x.s) := by
  cases d with
  | zero => exact h.elim
  | succ d =>
    rcases h with ⟨_, h⟩ | ⟨e, _⟩ | ⟨e, _⟩ | ⟨e, _⟩ | ⟨e, _⟩
    · exact h
    · omega
    · omega
    · omega
    · omega
theorem flats_list (b B lo hi : Nat) (w : World) (pv : Value) (h : PVal 7 lo hi w pv ⟨108, 0, ⟨#[]⟩, [nV 1, nV 2], []⟩) (hb : ∀ k, lo ≤ k → k < hi → k < B ∧ k ≠ b) :
    FlatsTo b B w pv (listS [numS 1, numS 2]) ∧ ∃ lv ad cap, pv = .iface 164 lv ∧ lv = .slice ad 2 cap := by
  rcases h with ⟨e, _⟩ | ⟨e, _⟩ | ⟨e, _⟩ | ⟨_, lv, vs, rfl, hrow, hel⟩ | ⟨e, _⟩
  · exact absurd e (by decide)
  · exact absurd e (by decide)
  · exact absurd e (by decide)
  · obtain ⟨ad, cap, hlv⟩ := ownsS_form hrow.1
    refine ⟨⟨_, _, _, rfl, m_flat_list _, ahead_list _, enters_list, fun w' hk hBw => ?_⟩, lv, ad, cap, rfl, hlv⟩
    have hrow' : w'.ownsRow lo 66 1 lv 2 vs := ownsS_frame hrow.1 (fun k k1 _ k3 => by
      have := hb k k1 (hrow.2 k k3)
      exact hk.block k this.1 this.2)
    refine list_flat b B w lv 2 vs [numS 1, numS 2] w' (SubRow.of hrow') rfl (by decide) (by decide) hk hBw (fun i v o hv ho => ?_) (by decide)
    match i, hv, ho with
    | 0, hv, ho =>
      have e1 := pval_num (hel 0 v (nV 1) hv rfl) rfl
      subst e1
      simp only [List.getElem?_cons_zero, Option.some.injEq] at ho
      subst ho
      exact flats_num b B w 1 (by decide)
    | 1, hv, ho =>
      have e1 := pval_num (hel 1 v (nV 2) hv rfl) rfl
      subst e1
      simp only [List.getElem?_cons_succ, List.getElem?_cons_zero, Option.some.injEq] at ho
      subst ho
      exact flats_num b B w 2 (by decide)
    | i + 2, hv, ho => simp at ho
  · exact absurd e (by decide)
theorem pairLay_of (b B q1 : Nat) (w : World) (wd : Int) (room : Nat) (fl : It → ByteArray) (t : It) (S : Nat → Prop) (h : PEnt S w (pairV q1) t) (hS : ∀ k, S k → k < B ∧ k ≠ b) (hk : t.k = 61)
    (hv : ∀ pv lo hi, (∀ k, lo ≤ k → k < hi → k < B ∧ k ≠ b) → PVal 7 lo hi w pv t.v → FlatsTo b B w pv (fl t) ∧ ∃ ad n cap ok, (∀ w, (Instr.typeAssert pv 66 164 true).run Tryz.prog w = .ok (.tuple #[.slice ad n cap, .bool ok]) w) ∧ (n = 0 ∨ ((pairS fl room t).size : Int) ≤ wd))
    (zp : (jn t.path).size ≤ 100) (zr : t.rem.size ≤ 100000) (zf : (fl t).size ≤ 1000000) : PairLay b B w wd room fl q1 t := by
  have h0 := h
  obtain ⟨q', sq, c0, c1, hF, hc⟩ := h
  rcases hc with ⟨hk2, _⟩ | ⟨hk2, e1, c2, c3, pv, lo, hi, c4, hlo, hpv⟩ | ⟨hk2, _⟩
  · omega
  · have eq1 : q' = q1 := by
      simp only [pairV, Value.iface.injEq, Value.pointer.injEq, Option.some.injEq, Addr.mk.injEq, and_true, true_and] at e1
      exact e1.symm
    subst eq1
    obtain ⟨f1, f2⟩ := hv pv lo hi (fun k k1 k2 => hS k (hlo k k1 k2).1) hpv
    exact ⟨(hS _ sq).1, (hS _ sq).2, c2, ⟨S, hS, h0⟩, ⟨pv, c4, f1, f2⟩, zp, zr, zf⟩
  · omega
theorem pl_k0 (b B q1 : Nat) (w : World) (room : Nat) (S : Nat → Prop) (h : PEnt S w (pairV q1) k0) (hS : ∀ k, S k → k < B ∧ k ≠ b) : PairLay b B w 80 room flK q1 k0 :=
  pairLay_of b B q1 w 80 room flK k0 S h hS rfl (fun pv lo hi _ hpv => by
    have e := pval_num hpv rfl
    subst e
    exact ⟨flats_num b B w 1 (by decide), none, 0, 0, false, asl_num _, .inl rfl⟩) (by decide) (by decide) (by decide)
theorem pl_k1 (b B q1 : Nat) (w : World) (room : Nat) (S : Nat → Prop) (h : PEnt S w (pairV q1) k1) (hS : ∀ k, S k → k < B ∧ k ≠ b) : PairLay b B w 80 room flK q1 k1 :=
  pairLay_of b B q1 w 80 room flK k1 S h hS rfl (fun pv lo hi _ hpv => by
    have e := pval_text hpv rfl
    subst e
    exact ⟨flats_x b B w, none, 0, 0, false, asl_text _, .inl rfl⟩) (by decide) (by decide) (by decide)
theorem pl_k5 (b B q1 : Nat) (w : World) (S : Nat → Prop) (h : PEnt S w (pairV q1) k5) (hS : ∀ k, S k → k < B ∧ k ≠ b) : PairLay b B w 80 (roomOf [k5]) flK q1 k5 :=
  pairLay_of b B q1 w 80 _ flK k5 S h hS rfl (fun pv lo hi hb hpv => by
    obtain ⟨f1, lv, ad, cap, e1, e2⟩ := flats_list b B lo hi w pv hpv hb
    subst e1 e2
    exact ⟨f1, ad, 2, cap, true, asl_list _, .inr (by decide)⟩) (by decide) (by decide) (by decide)
end Go.Proofs.YtdebjhdafnpfkabGreatDoor

namespace Go.Proofs.YtdebjhdafnpfkabGreatDoor
set_option linter.unusedVariables false
set_option linter.unusedSimpArgs false
/-- The layout, an entry at a time; o: the room of the block that it stands in. -/
def layR (fl : V → ByteArray) (wd : Nat) : Option Nat → List It → List ByteArray
  | _, [] => []
  | o, t :: r => if t.k = 61 then pLines fl wd (o.getD (roomOf (blockOf (t :: r)))) t ++ layR fl wd (some (o.getD (roomOf (blockOf (t :: r))))) r else otherS t :: layR fl wd none r
theorem block_cons_pos {t : It} {r : List It} (h : t.k = 61) : blockOf (t :: r) = t :: blockOf r := by unfold blockOf; rw [List.takeWhile_cons, if_pos (by simpa using h)]
theorem block_cons_neg {t : It} {r : List It} (h : t.k ≠ 61) : blockOf (t :: r) = [] := by unfold blockOf; rw [List.takeWhile_cons, if_neg (by simpa using h)]
theorem layR_some (fl : V → ByteArray) (wd R : Nat) : ∀ l : List It, layR fl wd (some R) l = ((blockOf l).map (pLines fl wd R)).flatten ++ layR fl wd none (l.drop (blockOf l).length)
  | [] => rfl
  | t :: r => by
    by_cases h : t.k = 61
    · rw [block_cons_pos h]
      unfold layR
      rw [if_pos h]
      simp only [Option.getD_some, List.map_cons, List.flatten_cons, List.length_cons, List.drop_succ_cons]
      rw [layR_some fl wd R r, List.append_assoc]
      cases hd : List.drop (blockOf r).length r with
      | nil => rfl
      | cons u s => simp only [layR]
    · rw [block_cons_neg h]
      show _ = layR fl wd none (t :: r)
      unfold layR
      rw [if_neg h, if_neg h]
theorem layR_none {fl : V → ByteArray} {wd : Nat} {l : List It} (h : blockOf l ≠ []) : layR fl wd none l = layR fl wd (some (roomOf (blockOf l))) l := by
  cases l with
  | nil => exact absurd rfl h
  | cons t r =>
    by_cases hk : t.k = 61
    · unfold layR
      rw [if_pos hk, if_pos hk]
      rfl
    · exact absurd (block_cons_neg hk) h
theorem layL_layR (fl : V → ByteArray) (wd : Nat) : ∀ (n : Nat) (l : List It), l.length < n → layL fl wd n l = layR fl wd none l
  | 0, l, h => absurd h (by omega)
  | n + 1, l, h => by
    unfold layL
    by_cases h0 : blockOf l = []
    · rw [if_pos h0]
      cases l with
      | nil => rfl
      | cons t r =>
        have hk : t.k ≠ 61 := fun hk => by rw [block_cons_pos hk] at h0; cases h0
        simp only
        rw [layL_layR fl wd n r (by simp at h; omega)]
        conv => rhs; unfold layR
        rw [if_neg hk]
    · rw [if_neg h0, layR_none h0, layR_some]
      have hp : 0 < (blockOf l).length := by cases hb : blockOf l with
        | nil => exact absurd hb h0
        | cons => simp
      have hq : (blockOf l).length ≤ l.length := (List.takeWhile_sublist _).length_le
      rw [layL_layR fl wd n _ (by rw [List.length_drop]; omega)]
      rfl
/-- Where the first sign of equality of a pair's line stands. -/
def sgnI (s : ByteArray) : Int := if s.size = 0 ∨ bt s 0 = 35 ∨ bt s 0 = 91 ∨ bt s 0 = 32 ∨ bt s 0 = 93 then -1 else if (bl s).findIdx (fun c => decide (c = 61)) < s.size then (bl s).findIdx (fun c => decide (c = 61)) else -1
theorem bt_head {s : ByteArray} {c : Nat} {l : List Nat} (e : bl s = c :: l) : bt s 0 = c ∧ s.size ≠ 0 := by
  have hs : s.size = l.length + 1 := by rw [← bl_len, e]; rfl
  refine ⟨?_, by omega⟩
  have := bl_get s 0 (by omega)
  rw [e] at this
  simpa using this.symm
theorem sgn_at {s : ByteArray} {c : Nat} {l m r : List Nat} (e : bl s = m ++ 61 :: r) (em : m = c :: l) (hc : ¬ (c = 35 ∨ c = 91 ∨ c = 32 ∨ c = 93)) (hm : ∀ d ∈ m, d ≠ 61) : sgnI s = m.length := by
  have hb := bt_head (s := s) (c := c) (l := l ++ 61 :: r) (by rw [e, em]; rfl)
  have hs : s.size = m.length + (r.length + 1) := by rw [← bl_len, e]; simp
  have hf : (bl s).findIdx (fun c => decide (c = 61)) = m.length := by
    rw [e]
    clear e em hs hb
    induction m with
    | nil => simp [List.findIdx_cons]
    | cons d m ih =>
      rw [List.cons_append, List.findIdx_cons, decide_eq_false (hm d (by simp)), ih (fun x hx => hm x (by simp [hx]))]
      rfl
  unfold sgnI
  rw [hb.1, if_neg (by rintro (h | h); exact hb.2 h; exact hc h), hf, if_pos (by omega)]
/-- Kinds of lines. -/
def LnE (s : ByteArray) : Prop := s.size = 0
def LnO (s : ByteArray) : Prop := Ln s ∧ ∃ c l, bl s = c :: l ∧ (c = 35 ∨ c = 32 ∨ c = 93)
def LnH (s : ByteArray) : Prop := Ln s ∧ ∃ l, bl s = 91 :: l
def LnS (R : Nat) (s : ByteArray) : Prop := Ln s ∧ sgnI s = R + 1 ∧ ∃ c l, bl s = c :: l ∧ ¬ (c = 35 ∨ c = 91 ∨ c = 32 ∨ c = 93)
def LnR (s : ByteArray) : Prop := Ln s ∧ ∃ l, bl s = 35 :: l
theorem LnR.o {s : ByteArray} (h : LnR s) : LnO s := ⟨h.1, 35, h.2.choose, h.2.choose_spec, .inl rfl⟩
theorem bl_sp (n : Nat) : bl (spS n) = List.replicate n 32 := by
  unfold spS
  rw [bl_arr, List.map_replicate]
  rfl
theorem start_form {R : Nat} {t : It} {n : ByteArray} (hn : NmOk n) (hp : t.path = [n]) (hR : n.size ≤ R) : ∃ m c l, bl (startS R t) = m ++ [61, 32] ∧ m = c :: l ∧ m.length = R + 1 ∧ ¬ (c = 35 ∨ c = 91 ∨ c = 32 ∨ c = 93) ∧ (∀ d ∈ m, d ≠ 61 ∧ d ≠ 10) := by
  obtain ⟨c, l, e, hc⟩ := hn.head
  refine ⟨bl n ++ List.replicate (R - n.size) 32 ++ [32], c, l ++ List.replicate (R - n.size) 32 ++ [32], ?_, by rw [e]; rfl, ?_, ?_, ?_⟩
  · unfold startS
    rw [hp]
    show bl (n ++ spS (R - n.size) ++ eqS) = _
    rw [bl_app, bl_app, bl_sp, show bl eqS = [32, 61, 32] from rfl]
    simp
  · rw [List.length_append, List.length_append, bl_len, List.length_replicate]
    simp only [List.length_cons, List.length_nil]
    omega
  · unfold letterB at hc
    simp at hc
    omega
  · intro d hd
    simp only [List.mem_append, List.mem_replicate, List.mem_singleton] at hd
    rcases hd with (hd | ⟨_, rfl⟩) | rfl
    · have := hn.let_ d hd
      unfold letterB at this
      simp at this
      omega
    · decide
    · decide
theorem lnS_of {R : Nat} {t : It} {n x : ByteArray} (hn : NmOk n) (hp : t.path = [n]) (hR : n.size ≤ R) (hx : Ln x) : LnS R (startS R t ++ x) := by
  obtain ⟨m, c, l, e, em, hl, hc, hm⟩ := start_form hn hp hR
  refine ⟨hx.after (fun d hd => ?_), ?_, c, l ++ [61, 32] ++ bl x, by rw [bl_app, e, em]; simp, hc⟩
  · rw [e] at hd
    simp only [List.mem_append, List.mem_cons, List.not_mem_nil, or_false] at hd
    rcases hd with hd | rfl | rfl
    · exact (hm d hd).2
    · decide
    · decide
  · rw [sgn_at (m := m) (r := 32 :: bl x) (by rw [bl_app, e]; simp) em hc (fun d hd => (hm d hd).1), hl]
    rfl
theorem beh_cases (s : ByteArray) (t : It) (hg : GoodIt t) (hs : s.size ≠ 0) : behS s t = ⟨#[]⟩ ∨ (Ln (behS s t)) := by
  unfold behS
  split
  · exact .inl rfl
  · exact .inr ((ln_trim hg.rem).1.after (by decide))
theorem start_pos (R : Nat) (t : It) : (startS R t).size ≠ 0 := by
  unfold startS
  rw [ByteArray.size_append]
  show _ + 3 ≠ 0
  omega
theorem ln_then {a b : ByteArray} (h : Ln a) (hb : b = ⟨#[]⟩ ∨ Ln b) : Ln (a ++ b) := by
  rcases hb with rfl | hb
  · rw [app_nil]; exact h
  · exact hb.after h.nl
/-- A pair's lines. -/
theorem pair_lines {fn : Int → ByteArray} (hf : FnOk fn) (wd : Nat) {R : Nat} {t : It} (hg : GoodIt t) (hk : t.k = 61) (hR : (jn t.path).size ≤ R) : ∃ x xs, pLines (flatV fn) wd R t = x :: xs ∧ LnS R x ∧ ∀ y ∈ xs, LnO y := by
  obtain ⟨n, hn, hp⟩ := hg.path (.inl hk)
  have hR' : n.size ≤ R := by rw [hp] at hR; exact hR
  have hv := hg.pair hk
  have hb := beh_cases (startS R t) t hg (start_pos R t)
  unfold pLines vLines
  split
  · refine ⟨_, [], rfl, ?_, fun y hy => by cases hy⟩
    rw [ByteArray.append_assoc]
    exact lnS_of hn hp hR' (ln_then (ln_flat hf hv) hb)
  · rename_i hc
    refine ⟨_, _, rfl, lnS_of hn hp hR' (ln_lit ⟨#[91]⟩ [] 91 rfl (by decide) (by decide)), fun y hy => ?_⟩
    have hy : y ∈ List.map (fun u => (⟨#[32, 32]⟩ : ByteArray) ++ flatV fn u ++ ⟨#[44]⟩) t.v.l ++ [(⟨#[]⟩ : ByteArray) ++ ⟨#[93]⟩ ++ behS (startS R t) t] := hy
    rw [List.mem_append, List.mem_map, List.mem_singleton] at hy
    have hl : ∃ vs, t.v = listV vs ∧ vs.length ≤ 8 ∧ ∀ u ∈ vs, Sc u := by
      rcases hv with h | h
      · exfalso
        apply hc
        left
        rcases h with ⟨n, _, _, e⟩ | ⟨b, e⟩ | ⟨s, _, e⟩ <;> rw [e] <;> simp [numV, boolV, textV]
      · exact h
    obtain ⟨vs, ev, _, hvs⟩ := hl
    rcases hy with ⟨u, hu, rfl⟩ | rfl
    · rw [ev] at hu
      have hlu := ln_flat1 hf (hvs u hu)
      have e1 : flatV fn u = flat1 fn u := by
        unfold flatV
        rw [if_neg]
        rcases hvs u hu with ⟨n, _, _, e⟩ | ⟨b, e⟩ | ⟨s, _, e⟩ <;> rw [e] <;> simp [numV, boolV, textV]
      rw [e1]
      refine ⟨Ln.after (ln_lit ⟨#[44]⟩ [] 44 rfl (by decide) (by decide)) (fun c hc => ?_), 32, 32 :: (bl (flat1 fn u) ++ [44]), by rw [bl_app, bl_app]; rfl, .inr (.inl rfl)⟩
      rw [bl_app, List.mem_append] at hc
      rcases hc with hc | hc
      · have : c = 32 := by simpa [show bl (⟨#[32, 32]⟩ : ByteArray) = [32, 32] from rfl] using hc
        omega
      · exact hlu.nl c hc
    · rw [nil_app]
      exact ⟨ln_then (ln_lit ⟨#[93]⟩ [] 93 rfl (by decide) (by decide)) hb, 93, bl (behS (startS R t) t), by rw [bl_app]; rfl, .inr (.inr rfl)⟩
theorem other_empty {t : It} (hk : t.k ≠ 91) (he : emptyB t = true) : LnE (otherS t) := by
  unfold emptyB at he
  simp only [Bool.and_eq_true, Bool.not_eq_true', decide_eq_false_iff_not, ne_eq, Decidable.not_not] at he
  unfold LnE otherS behS
  rw [if_neg hk, if_pos he.2]
  rfl
theorem other_remark {t : It} (hg : GoodIt t) (hk : t.k ≠ 91) (hk2 : t.k ≠ 61) (he : emptyB t = false) : LnR (otherS t) := by
  have hb : bareB t = true := by unfold bareB; have := hg.kind; simp; omega
  have hr : t.rem.size ≠ 0 := by
    intro e
    unfold emptyB at he
    rw [hb, decide_eq_false (fun q => q e)] at he
    cases he
  unfold otherS behS
  rw [if_neg hk, if_neg hr, if_pos (show (⟨#[]⟩ : ByteArray).size = 0 from rfl)]
  obtain ⟨h1, h2⟩ := ln_trim hg.rem
  refine ⟨h1, ?_⟩
  cases e : bl (trimS (rmk t.rem)) with
  | nil => rw [e] at h2; cases h2
  | cons c l => rw [e] at h2; simp at h2; exact ⟨l, by rw [h2]⟩
theorem other_head {t : It} (hg : GoodIt t) (hk : t.k = 91) : LnH (otherS t) := by
  obtain ⟨n, hn, hp⟩ := hg.path (.inr hk)
  unfold otherS
  rw [if_pos hk, hp]
  show LnH ((⟨#[91]⟩ : ByteArray) ++ n ++ (⟨#[93]⟩ : ByteArray) ++ behS ((⟨#[91]⟩ : ByteArray) ++ n ++ (⟨#[93]⟩ : ByteArray)) t)
  have hb := beh_cases ((⟨#[91]⟩ : ByteArray) ++ n ++ (⟨#[93]⟩ : ByteArray)) t hg (by rw [ByteArray.size_append]; show _ + 1 ≠ 0; omega)
  refine ⟨ln_then (Ln.after (ln_lit ⟨#[93]⟩ [] 93 rfl (by decide) (by decide)) (fun c hc => ?_)) hb, bl n ++ [93] ++ bl (behS ((⟨#[91]⟩ : ByteArray) ++ n ++ (⟨#[93]⟩ : ByteArray)) t), ?_⟩
  · rw [bl_app, List.mem_append] at hc
    rcases hc with hc | hc
    · have : c = 91 := by simpa [show bl (⟨#[91]⟩ : ByteArray) = [91] from rfl] using hc
      omega
    · have := hn.let_ c hc
      exact (letter_ne this).1
  · rw [bl_app, bl_app, bl_app]
    rfl
theorem layOf_layR (fl : V → ByteArray) (wd : Nat) (items : List It) : layOf fl wd items = layR fl wd none (spacedOf items) := layL_layR fl wd _ _ (by omega)
end Go.Proofs.YtdebjhdafnpfkabGreatDoor
