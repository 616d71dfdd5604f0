import Derived.Test.YtdebjhdafnpfkabGreatDoorK24
import Derived.Test.YtdebjhdafnpfkabGreatDoorK29
import Derived.Deep.RegionWith
import Derived.Test.YtdebjhdafnpfkabGreatDoorK02
import Derived.Test.YtdebjhdafnpfkabGreatDoorK07
namespace Go.Proofs.YtdebjhdafnpfkabGreatDoor
open Go.ChangeShapes Go.WideShapes Go.ChangeAt Go.RowKit
set_option linter.unusedVariables false
set_option linter.unusedSimpArgs false
/-- A value that is no list, as the layout meets it. -/
def Sclr (v : Value) : Prop := ∃ ad cap ok, ∀ w, (Instr.typeAssert v 66 164 true).run Tryz.prog w = .ok (.tuple #[.slice ad 0 cap, .bool ok]) w
def elemS (o : ByteArray) : ByteArray := ⟨#[32, 32]⟩ ++ o ++ ⟨#[44]⟩
theorem linesC_app (a b : List ByteArray) : linesC (a ++ b) = linesC a ++ linesC b := by unfold linesC; simp
theorem linesC_one (s : ByteArray) : linesC [s] = Lib.strCells s ++ [.int .u8 10] := by unfold linesC lineC; simp
set_option maxRecDepth 100000 in
set_option maxHeartbeats 2000000 in
/-- A list that is broken. -/
theorem layValue_broken (b B : Nat) (wd : Int) (bs : List Value) (ah out be : ByteArray) (v : Value) (ad : Option Addr) (n cap : Nat) (ok : Bool) (vs : List Value) (outs : List ByteArray) (w0 w : World) (hP : PageAt B w b wd bs) (hk : Kp b B w0 w) (hBw : B ≤ w.heap.size) (hB0 : B ≤ w0.heap.size)
    (hF : FlatsTo b B w0 v out) (hA : ∀ w, (Instr.typeAssert v 66 164 true).run Tryz.prog w = .ok (.tuple #[.slice ad n cap, .bool ok]) w) (hn : 0 < n) (hwd : wd < ((ah ++ out ++ be).size : Int)) (hn8 : n ≤ 1000)
    (hvl : vs.length = n) (hol : outs.length = n) (hc : ∀ (i : Nat) (u : Value), vs[i]? = some u → ∃ g off, ad = some ⟨g, off, none⟩ ∧ g < B ∧ g ≠ b ∧ w0.cell? ⟨g, off + i, none⟩ = some u)
    (he : ∀ (i : Nat) (u : Value) (o : ByteArray), vs[i]? = some u → outs[i]? = some o → FlatsTo b B w0 u o ∧ Sclr u ∧ o.size ≤ 10000)
    (z1 : ah.size ≤ 1000000) (z2 : out.size ≤ 1000000) (z3 : be.size ≤ 1000000) (zb : bs.length ≤ 20000000000000) :
    Calls Tryz.prog 56 #[ptr b, .string ah, v, .string be, .int .i64 0] w fun e w' => e = .returned (.tuple #[]) ∧ PageAt B w' b wd (bs ++ linesC ([ah ++ ⟨#[91]⟩] ++ outs.map elemS ++ [(⟨#[]⟩ : ByteArray) ++ ⟨#[93]⟩ ++ be])) ∧ Kp b B w0 w' := by
  obtain ⟨tt, u, fid, rfl, M1, M2, M3, hC⟩ := hF
  have HP := hid hP
  have HK := hid hk
  have HC := hid hC
  have HEL := hid he
  have HCL := hid hc
  have HVL := hid hvl
  have HOL := hid hol
  have Hsz : Hid ((ah ++ out ++ be).size = ah.size + out.size + be.size) := by unfold Hid; rw [ByteArray.size_append, ByteArray.size_append]
  have t0 : ((n : Int) == 0) = false := by simp; omega
  have t1 : wd < (ah.size : Int) + out.size + be.size := by have := Hsz.out; rw [this] at hwd; omega
  have hbB : b < B := by rcases hP with h | h <;> exact h.1
  have HN8 := hid (And.intro hn hn8)
  clear hP hk hC hwd he hc hvl hol hn hn8
  go_enter Tryz.func56, Tryz.ntmps56
  go_wp2_with fail
  refine (HC.out w HK.out hBw).mono ?_
  rintro e w1 ⟨rfl, hB1⟩
  have HP1 : Hid (PageAt B w1 b wd bs) := HP.out.frame hB1
  have HK1 : Hid (Kp b B w0 w1) := HK.out.below hB1 hBw
  have hz1 := hB1.size
  have wdc : w1.cell? ⟨b, 2, none⟩ = some (.int .i64 wd) := by
    rcases HP1.out with ⟨_, v', hb, _⟩ | ⟨_, v', hb, _⟩ <;> (rw [Lib.cell_of_heap hb]; rfl)
  clear hB1 HP HK
  go_wp2_with fail
  refine (writeLine_any B b wd bs _ w1 HP1.out ?_ (by omega)).mono ?_
  · have e91 : (⟨#[91]⟩ : ByteArray).size = 1 := rfl
    rw [ByteArray.size_append, e91]
    omega
  rintro e w2 ⟨rfl, hP2, hK2⟩
  have HP2 : Hid (PageAt B w2 b wd (bs ++ linesC ([ah ++ ⟨#[91]⟩] ++ (outs.take 0).map elemS))) := by
    unfold Hid
    simp only [List.take_zero, List.map_nil, List.append_nil, linesC_one]
    rw [← List.append_assoc]
    exact hP2
  have HK2 : Hid (Kp b B w0 w2) := HK1.out.trans hK2
  have hz2 : B ≤ w2.heap.size := by have := hK2.size; omega
  have HLB : Hid ((bs ++ linesC ([ah ++ ⟨#[91]⟩] ++ (outs.take 0).map elemS)).length ≤ 20000000000000 + 2000000 + 0 * 20000) := by
    unfold Hid
    simp only [List.take_zero, List.map_nil, List.append_nil, linesC_one]
    have e91 : (⟨#[91]⟩ : ByteArray).size = 1 := rfl
    rw [List.length_append, List.length_append, Lib.strCells_length, ByteArray.size_append, e91]
    simp only [List.length_cons, List.length_nil]
    omega
  have HSP : Hid (∀ w, Calls Tryz.prog 73 #[.int .i64 1] w fun e w' => e = .returned (.string ⟨#[32, 32]⟩) ∧ ∃ n, w' = w.drewN n) := fun w => indent_any 1 (by omega) w
  have HSP0 : Hid (∀ w, Calls Tryz.prog 73 #[.int .i64 0] w fun e w' => e = .returned (.string ⟨#[]⟩) ∧ ∃ n, w' = w.drewN n) := fun w => indent_any 0 (by omega) w
  clear wdc HP1 HK1
  go_wp2_with fail
  go_loopw [47] (fun i wr => ∃ k : Nat, k ≤ n ∧ i = .int .i64 k ∧ Hid (PageAt B wr b wd (bs ++ linesC ([ah ++ ⟨#[91]⟩] ++ (outs.take k).map elemS))) ∧ Hid (Kp b B w0 wr) ∧ B ≤ wr.heap.size ∧ Hid ((bs ++ linesC ([ah ++ ⟨#[91]⟩] ++ (outs.take k).map elemS)).length ≤ 20000000000000 + 2000000 + k * 20000)) (fun i _ => n - (intOf i).toNat)
  case atStart => exact ⟨0, Nat.zero_le _, rfl, HP2, HK2, hz2, HLB⟩
  case round =>
    obtain ⟨k, hk, rfl, hP3, hK3, hz3, hL3⟩ := hrel
    have hn8 := HN8.out.2
    by_cases hkl : k < n
    · have tk : decide ((k : Int) < n) = true := by simp; omega
      have h1 : k < vs.length := by have := HVL.out; omega
      have h2 : k < outs.length := by have := HOL.out; omega
      obtain ⟨g, off, hg, hgB, hgb, hgc⟩ := HCL.out k vs[k] (List.getElem?_eq_getElem h1)
      subst hg
      have hgr := (hK3.out.cell (p := ⟨g, off + k, none⟩) hgB hgb).trans hgc
      obtain ⟨hF, ⟨ae, ce, oe, hAe⟩, hoz⟩ := HEL.out k vs[k] outs[k] (List.getElem?_eq_getElem h1) (List.getElem?_eq_getElem h2)
      have hnx : Hid ((outs.take (k + 1)).map elemS = (outs.take k).map elemS ++ [⟨#[32, 32]⟩ ++ outs[k] ++ ⟨#[44]⟩]) := by
        unfold Hid
        rw [List.take_succ_eq_append_getElem h2, List.map_append]
        rfl
      generalize vs[k] = ve at *
      generalize outs[k] = oo at *
      obtain ⟨et, eu, efid, hve, hrest⟩ := hF
      have HF : Hid (FlatsTo b B w0 ve oo) := ⟨et, eu, efid, hve, hrest⟩
      have HAe := hid hAe
      subst hve
      clear hgc hrest hAe
      go_wp2_with fail
      refine (HSP.out _).mono ?_
      rintro e w4 ⟨rfl, n4, hw4⟩
      have hP4 : PageAt B w4 b wd (bs ++ linesC ([ah ++ ⟨#[91]⟩] ++ (outs.take k).map elemS)) := by rw [hw4]; exact hP3.out.frame (qbelow_drewN (Below.refl _ _) n4)
      have hK4 : Kp b B w0 w4 := by rw [hw4]; exact hK3.out.trans (Kp.all (qbelow_drewN (Below.refl _ _) n4) hz3)
      have hz4 : B ≤ w4.heap.size := by rw [hw4]; exact hz3
      have HP4 := hid hP4
      have HK4 := hid hK4
      clear hP4 hK4 hw4 hP3 hK3 hgr
      go_wp2_with fail
      refine (layValue_flat b B wd _ _ oo _ _ 1 ae 0 ce oe w0 w4 HP4.out HK4.out hz4 HF.out HAe.out (.inl rfl) ?_ (by omega) ?_ ?_).mono ?_
      · decide
      · decide
      · have := hL3.out
        omega
      rintro e w5 ⟨rfl, hP5, hK5⟩
      have HP5 : Hid (PageAt B w5 b wd (bs ++ linesC ([ah ++ ⟨#[91]⟩] ++ (outs.take (k + 1)).map elemS))) := by
        unfold Hid
        rw [hnx.out, ← List.append_assoc, linesC_app, linesC_one, ← List.append_assoc, ← List.append_assoc]
        exact hP5
      have HL5 : Hid ((bs ++ linesC ([ah ++ ⟨#[91]⟩] ++ (outs.take (k + 1)).map elemS)).length ≤ 20000000000000 + 2000000 + (k + 1) * 20000) := by
        have h3 := hL3.out
        have e1 : (⟨#[32, 32]⟩ : ByteArray).size = 2 := rfl
        have e2 : (⟨#[44]⟩ : ByteArray).size = 1 := rfl
        unfold Hid
        rw [hnx.out, ← List.append_assoc, linesC_app, linesC_one, ← List.append_assoc, ← List.append_assoc, List.length_append, List.length_append, Lib.strCells_length, ByteArray.size_append, ByteArray.size_append, e1, e2]
        simp only [List.length_cons, List.length_nil]
        omega
      have HK5 := hid hK5
      have hz5 : B ≤ w5.heap.size := Nat.le_trans hB0 hK5.size
      clear hP5 hK5
      go_wp2_with fail
      go_roundw
      case rel => exact ⟨k + 1, by omega, by go_num, HP5, HK5, hz5, HL5⟩
      case measure => simp [intOf]; omega
    · have tk : decide ((k : Int) < n) = false := by simp; omega
      have ek : k = n := by omega
      have FE : Hid ((outs.take k).map elemS = outs.map elemS) := by
        unfold Hid
        rw [List.take_of_length_le (by have := HOL.out; omega)]
      rw [FE.out] at hP3 hL3
      go_wp2_with fail
      refine (HSP0.out _).mono ?_
      rintro e w4 ⟨rfl, n4, hw4⟩
      have hP4 : PageAt B w4 b wd (bs ++ linesC ([ah ++ ⟨#[91]⟩] ++ outs.map elemS)) := by rw [hw4]; exact hP3.out.frame (qbelow_drewN (Below.refl _ _) n4)
      have hK4 : Kp b B w0 w4 := by rw [hw4]; exact hK3.out.trans (Kp.all (qbelow_drewN (Below.refl _ _) n4) hz3)
      have hz4 : B ≤ w4.heap.size := by rw [hw4]; exact hz3
      have HP4 := hid hP4
      have HK4 := hid hK4
      clear hP4 hK4 hw4 hP3 hK3
      go_wp2_with fail
      refine (writeLine_any B b wd _ _ w4 HP4.out ?_ hz4).mono ?_
      · have := hL3.out
        have e1 : (⟨#[]⟩ : ByteArray).size = 0 := rfl
        have e2 : (⟨#[93]⟩ : ByteArray).size = 1 := rfl
        rw [ByteArray.size_append, ByteArray.size_append, e1, e2]
        omega
      rintro e w5 ⟨rfl, hP5, hK5⟩
      have HP5 : Hid (PageAt B w5 b wd (bs ++ linesC ([ah ++ ⟨#[91]⟩] ++ outs.map elemS ++ [(⟨#[]⟩ : ByteArray) ++ ⟨#[93]⟩ ++ be]))) := by
        unfold Hid
        rw [linesC_app, linesC_one, ← List.append_assoc, ← List.append_assoc]
        exact hP5
      have HK5 := hid (HK4.out.trans hK5)
      clear hP5 hK5
      go_wp2_with fail
      go_returns
      exact ⟨rfl, HP5.out, HK5.out⟩
end Go.Proofs.YtdebjhdafnpfkabGreatDoor

namespace Go.Proofs.YtdebjhdafnpfkabGreatDoor
open Go.ChangeShapes Go.WideShapes Go.ChangeAt Go.RowKit
set_option linter.unusedVariables false
set_option linter.unusedSimpArgs false
/-- A pair, and how its value is laid out. -/
structure PairLayG (b B : Nat) (w : World) (wd : Int) (room : Nat) (pl : It → List ByteArray) (q : Nat) (t : It) : Prop where
  lt : q < B
  ne : q ≠ b
  path : w.cell? ⟨q, 2, none⟩ = some (.string (jn t.path))
  ent : ∃ S : Nat → Prop, (∀ k, S k → k < B ∧ k ≠ b) ∧ PEnt S w (pairV q) t
  val : ∃ vt vu, w.cell? ⟨q, 4, none⟩ = some (.iface vt vu) ∧ ∀ (w' : World) (cs : List Value), PageAt B w' b wd cs → Kp b B w w' → B ≤ w'.heap.size → cs.length ≤ 20000000000000 →
    Calls Tryz.prog 56 #[ptr b, .string (startS room t), .iface vt vu, .string (behS (startS room t) t), .int .i64 0] w' fun e w'' => e = .returned (.tuple #[]) ∧ PageAt B w'' b wd (cs ++ linesC (pl t)) ∧ Kp b B w w''
  zp : (jn t.path).size ≤ 100
  zr : t.rem.size ≤ 100000
  zf : (linesC (pl t)).length ≤ 2500000
set_option maxRecDepth 100000 in
set_option maxHeartbeats 2000000 in
theorem layBlock_gen (b B : Nat) (wd : Int) (bs : List Value) (bv : Value) (qs : List Nat) (l : List It) (pl : It → List ByteArray) (w : World) (hP : PageAt B w b wd bs) (hBw : B ≤ w.heap.size) (hbB : b < B)
    (ho : w.ownsRow B 61 1 bv qs.length (qs.map ptr)) (hl : qs.length ≤ l.length ∧ l.length ≤ qs.length) (hlen : l.length ≤ 8000)
    (hq : ∀ (i q : Nat) (t : It), qs[i]? = some q → l[i]? = some t → PairLayG b B w wd (roomOf l) pl q t) (zb : bs.length ≤ 10000000000000) :
    Calls Tryz.prog 34 #[ptr b, bv] w fun e w' => e = .returned (.tuple #[]) ∧ PageAt B w' b wd (bs ++ linesC ((l.map pl).flatten)) ∧ Kp b B w w' := by
  obtain ⟨ap, cp, ep⟩ := ownsS_form ho
  subst ep
  have HO : Hid (w.ownsRow B 61 1 (.slice ap qs.length cp) qs.length (qs.map ptr)) := ho
  have HP : Hid (PageAt B w b wd bs) := hP
  have HQ : Hid _ := hq
  have hroom : roomOf l ≤ 100 := room_le l 100 (fun t ht => by
    obtain ⟨i, hi, rfl⟩ := List.getElem_of_mem ht
    exact (hq i (qs[i]'(by omega)) l[i] (List.getElem?_eq_getElem _) (List.getElem?_eq_getElem _)).zp)
  clear ho hP hq
  go_enter Tryz.func34, Tryz.ntmps34
  go_wp2_with fail
  go_loopw [4, 12] (fun rv i wr => ∃ k : Nat, k ≤ qs.length ∧ i = .int .i64 k ∧ ∃ r : Nat, rv = .int .i64 r ∧ Hid (r = roomOf (l.take k)) ∧ r ≤ 100 ∧ wr = w) (fun _ i _ => qs.length - (intOf i).toNat)
  case atStart => exact ⟨0, Nat.zero_le _, rfl, 0, rfl, rfl, by omega, rfl⟩
  case round =>
    obtain ⟨k, hk, rfl, r, rfl, hr, hr100, rfl⟩ := hrel
    by_cases hkl : k < qs.length
    · have hkl2 : k < l.length := by omega
      obtain ⟨g, hg, hg1, hg2, hgc⟩ := rowv_cell HO.out k (ptr qs[k]) (by rw [List.getElem?_map, List.getElem?_eq_getElem hkl]; rfl)
      subst hg
      have hPL := HQ.out k qs[k] l[k] (List.getElem?_eq_getElem hkl) (List.getElem?_eq_getElem hkl2)
      have hpa := hPL.path
      have hzp := hPL.zp
      have Hnx : Hid (roomOf (l.take (k + 1)) = max r (jn l[k].path).size) := by unfold Hid; rw [room_take l k hkl2, ← hr.out]
      clear hPL hr
      generalize qs[k] = q1 at *
      generalize l[k] = t at *
      go_wp2_with fail
      go_roundw
      case rel => exact ⟨k + 1, by omega, by go_num, max r (jn t.path).size, by congr 1; omega, Hnx.out.symm, by omega, trivial⟩
      case measure => simp [intOf]; omega
    · have hrl : r = roomOf l := by
        have h1 := hr.out
        rw [List.take_of_length_le (by omega)] at h1
        exact h1
      clear hr
      subst hrl
      obtain ⟨wo, hwo⟩ : ∃ wo, wo = wr := ⟨wr, rfl⟩
      subst hwo
      have HPL : Hid (∀ (i q : Nat) (t : It), qs[i]? = some q → l[i]? = some t → PairLayG b B wo wd (roomOf l) pl q t) := HQ
      clear HQ
      have Hr : Hid (∀ k, k < l.length → ∀ t, l[k]? = some t → (jn t.path).size ≤ roomOf l) := fun k hk t ht => by
        have := room_ge l k hk
        rw [List.getElem?_eq_getElem hk] at ht
        cases ht
        exact this
      generalize hR : roomOf l = R at *
      go_wp2_with fail
      go_loopw [26] (fun i w2 => ∃ k : Nat, k ≤ qs.length ∧ i = .int .i64 k ∧ Hid (PageAt B w2 b wd (bs ++ linesC (((l.take k).map pl).flatten))) ∧ Hid ((bs ++ linesC (((l.take k).map pl).flatten)).length ≤ 10000000000000 + k * 3000000) ∧ Hid (Kp b B wo w2)) (fun i _ => qs.length - (intOf i).toNat)
      case atStart => exact ⟨0, Nat.zero_le _, rfl, by simpa [linesC] using HP, by unfold Hid; simpa [linesC] using zb, Kp.refl _ _ _⟩
      case round =>
        obtain ⟨k, hk, rfl, hP2, hlb, hK2⟩ := hrel
        by_cases hkl : k < qs.length
        · have hkl2 : k < l.length := by omega
          obtain ⟨g, hg, hg1, hg2, hgc⟩ := rowv_cell (owns_kp HO.out hK2.out (by decide) hbB) k (ptr qs[k]) (by rw [List.getElem?_map, List.getElem?_eq_getElem hkl]; rfl)
          subst hg
          have hPL := HPL.out k qs[k] l[k] (List.getElem?_eq_getElem hkl) (List.getElem?_eq_getElem hkl2)
          have hrk : (jn l[k].path).size ≤ R := Hr.out k hkl2 _ (List.getElem?_eq_getElem hkl2)
          have hnx : Hid (((l.take (k + 1)).map pl).flatten = ((l.take k).map pl).flatten ++ pl l[k]) := by
            unfold Hid
            rw [List.take_succ_eq_append_getElem hkl2, List.map_append, List.flatten_append]
            simp
          generalize qs[k] = q1 at *
          generalize l[k] = t at *
          obtain ⟨p1, p2, p3, ⟨S, hS, hPE⟩, ⟨vt, vu, c4, hV⟩, zp, zr, zf⟩ := hPL
          have c2 := (hK2.out.cell (p := ⟨q1, 2, none⟩) p1 p2).trans p3
          have c4' := (hK2.out.cell (p := ⟨q1, 4, none⟩) p1 p2).trans c4
          have hz2 := hK2.out.size
          have HV := hid hV
          have HPE : Hid (PEnt S wr (pairV q1) t) := hPE.frame (fun j hj => hK2.out.block j (hS j hj).1 (hS j hj).2)
          have HS : Hid _ := hS
          clear hPE p3 c4 hV hS
          obtain ⟨sp, hsp, hspz, HR⟩ : ∃ sp : ByteArray, Hid (sp = spS (R - (jn t.path).size)) ∧ sp.size ≤ 100 ∧ Hid (∀ w, Calls Tryz.prog 55 #[.string ⟨#[32]⟩, .int .i64 ((R : Int) - ((jn t.path).size : Int))] w fun e w' => e = .returned (.string sp) ∧ ∃ n, w' = w.drewN n) :=
            ⟨_, rfl, by rw [spS_size]; omega, fun w => by rw [show ((R : Int) - ((jn t.path).size : Int)) = ((R - (jn t.path).size : Nat) : Int) by omega]; exact rep_one _ (by omega) w⟩
          have Hsz : Hid ((startS R t).size ≤ 300) := by
            unfold Hid startS
            have e1 : eqS.size = 3 := rfl
            rw [ByteArray.size_append, ByteArray.size_append, spS_size, e1]
            omega
          go_wp2_with fail
          go_quiet ((go_at_call 55; exact Calls.quiet_of (HR.out _)))
          obtain ⟨st, hst, hstz, hsts⟩ : ∃ st : ByteArray, jn t.path ++ sp ++ ⟨#[32, 61, 32]⟩ = st ∧ st.size ≤ 300 ∧ Hid (st = startS R t) := by
            have e1 : jn t.path ++ sp ++ ⟨#[32, 61, 32]⟩ = startS R t := by rw [hsp.out]; rfl
            exact ⟨_, e1, Hsz.out, rfl⟩
          rw [hst]
          have g4 : (wr.drewN nq).cell? ⟨q1, 4, none⟩ = some (.iface vt vu) := c4'
          have gP : Hid (PageAt B (wr.drewN nq) b wd (bs ++ linesC (((l.take k).map pl).flatten))) := hP2.out.frame (qbelow_drewN (Below.refl _ _) nq)
          have gK : Hid (Kp b B wo (wr.drewN nq)) := hK2.out.trans (Kp.all (qbelow_drewN (Below.refl _ _) nq) (by omega))
          have gE : Hid (PEnt S (wr.drewN nq) (pairV q1) t) := HPE.out.frame (fun j hj => rfl)
          have gz : B ≤ (wr.drewN nq).heap.size := by show B ≤ wr.heap.size; omega
          clear hst hsp hspz HR c2 c4' hP2 hK2 HPE hgc hz2
          generalize wr.drewN nq = w3 at *
          have HK4 : Hid (∀ w4, Below w3.drew.heap.size w3.drew w4 → w4.cell? ⟨q1, 4, none⟩ = some (.iface vt vu)) := fun w4 h => (h.cell (p := ⟨q1, 4, none⟩) (lt_of_cell g4)).trans g4
          have HPP : Hid (∀ w4, Below w3.drew.heap.size w3.drew w4 → PageAt B w4 b wd (bs ++ linesC (((l.take k).map pl).flatten)) ∧ Kp b B wo w4 ∧ B ≤ w4.heap.size) := fun w4 h => by
            have h' : Below w3.heap.size w3 w4 := ⟨h.os, h.tape, h.output, h.size, fun j hj => h.block j hj⟩
            exact ⟨gP.out.frame h', gK.out.below h' gz, by have := h'.size; omega⟩
          have HEA : Hid (EntAt (fun _ => True) none w3.drew (pairV q1) t) := ⟨S, fun j hj => ⟨by have := (HS.out j hj).1; show j < w3.heap.size; omega, by simp, trivial⟩, gE.out.frame (fun j hj => rfl)⟩
          have hbz := behS_size st t zr
          have Hnx2 : Hid (bs ++ linesC (((l.take k).map pl).flatten) ++ linesC (pl t) = bs ++ linesC (((l.take (k + 1)).map pl).flatten)) := by
            unfold Hid
            rw [hnx.out, List.append_assoc]
            congr 1
            unfold linesC
            simp
          have HV2 : Hid (∀ (w : World) (cs : List Value), PageAt B w b wd cs → Kp b B wo w → B ≤ w.heap.size → cs.length ≤ 20000000000000 → Calls Tryz.prog 56 #[ptr b, .string st, .iface vt vu, .string (behS st t), .int .i64 0] w fun e w' => e = .returned (.tuple #[]) ∧ PageAt B w' b wd (cs ++ linesC (pl t)) ∧ Kp b B wo w') := by
            unfold Hid
            rw [hsts.out]
            exact HV.out
          have Hlb2 : Hid ((bs ++ linesC (((l.take (k + 1)).map pl).flatten)).length ≤ 10000000000000 + (k + 1) * 3000000) := by
            unfold Hid
            rw [← Hnx2.out]
            have h1 := hlb.out
            rw [List.length_append]
            omega
          have hz100 : Hid ((bs ++ linesC (((l.take k).map pl).flatten)).length ≤ 20000000000000) := by
            have h1 := hlb.out
            unfold Hid
            omega
          clear hnx HV gE gK gP HPL hlb HS
          go_wp2_with fail
          go_region_with (first | (go_at_call 54; refine (remarkBehind_any st (pairV q1) t w3.drew HEA.out zr).mono ?_; rintro e w4 ⟨rfl, hB4⟩; have k4 := HK4.out w4 hB4) | (go_at_call 56; refine (HV2.out w4 _ (HPP.out w4 hB4).1 (HPP.out w4 hB4).2.1 (HPP.out w4 hB4).2.2 hz100.out).mono ?_; rintro e w5 ⟨rfl, hP5, hK5⟩))
          all_goals (rw [Hnx2.out] at hP5)
          all_goals (have HP5 : Hid _ := hP5; have HK5 : Hid _ := hK5; clear hP5 hK5 hB4)
          all_goals (go_wp2_with fail)
          all_goals (
            go_roundw
            case rel => exact ⟨k + 1, by omega, by go_num, HP5, Hlb2, HK5⟩
            case measure => simp [intOf]; omega)
        · have Fin : Hid (PageAt B wr b wd (bs ++ linesC ((l.map pl).flatten))) := by
            have h1 := hP2.out
            rw [List.take_of_length_le (by omega)] at h1
            exact h1
          clear hP2 hlb
          go_wp2_with fail
          go_returns
          exact ⟨rfl, Fin.out, hK2.out⟩
end Go.Proofs.YtdebjhdafnpfkabGreatDoor

namespace Go.Proofs.YtdebjhdafnpfkabGreatDoor
open Go.ChangeShapes Go.WideShapes Go.ChangeAt Go.RowKit
set_option linter.unusedVariables false
set_option linter.unusedSimpArgs false
theorem letter_byte (B b : Nat) (l : List UInt8) (c : UInt8) (w : World) (h : Lib.IsBuilder 86 5 B b (Lib.byteCells l) w) (hl : l.length ≤ 100000) (hB : B ≤ w.heap.size) (h1 : c ≠ 34) (h2 : c ≠ 92) (h3 : c ≠ 10) (h4 : c ≠ 9) :
    Calls Tryz.prog 178 #[.pointer (some ⟨b, 0, none⟩), .int .u8 c.toNat] w fun e w' => e = .returned (.tuple #[]) ∧ Lib.IsBuilder 86 5 B b (Lib.byteCells (l ++ [c])) w' ∧ Below B w w' := by
  have H : Hid _ := h
  have t1 : ((c.toNat : Int) == 34) = false := by
    have : c.toNat ≠ 34 := fun e => h1 (UInt8.toNat_inj.1 (by simpa using e))
    simp; omega
  have t2 : ((c.toNat : Int) == 92) = false := by
    have : c.toNat ≠ 92 := fun e => h2 (UInt8.toNat_inj.1 (by simpa using e))
    simp; omega
  have t3 : ((c.toNat : Int) == 10) = false := by
    have : c.toNat ≠ 10 := fun e => h3 (UInt8.toNat_inj.1 (by simpa using e))
    simp; omega
  have t4 : ((c.toNat : Int) == 9) = false := by
    have : c.toNat ≠ 9 := fun e => h4 (UInt8.toNat_inj.1 (by simpa using e))
    simp; omega
  clear h h1 h2 h3 h4
  go_enter Tryz.func178, Tryz.ntmps178
  go_wp2_with fail
  refine (Tryz.Builder_WriteByte B b (Lib.byteCells l) (c.toNat : Int) _ H.out (by rw [Lib.byteCells_length]; omega) hB).mono ?_
  rintro e w1 ⟨rfl, hb1, hB1⟩
  have HB1 : Hid _ := hb1
  have HW : Hid _ := hB1
  clear hb1 hB1
  go_wp2_with fail
  go_returns
  refine ⟨rfl, .inr ?_, HW.out⟩
  have e : Lib.byteCells (l ++ [c]) = Lib.byteCells l ++ [.int .u8 c.toNat] := by simp [Lib.byteCells]
  rw [e]
  exact HB1.out
set_option maxRecDepth 100000 in
set_option maxHeartbeats 1000000 in
/-- A text of one plain byte. -/
theorem text_one (c : UInt8) (w : World) (h1 : c ≠ 34) (h2 : c ≠ 92) (h3 : c ≠ 10) (h4 : c ≠ 9) :
    Calls Tryz.prog 177 #[.string ⟨#[c]⟩] w fun e w' => e = .returned (.string ⟨#[34, c, 34]⟩) ∧ Below w.heap.size w w' := by
  have hconv := fun (w : World) (f : ByteArray) => Lib.run_convert_string_bytes (P := Tryz.prog) w 176 43 5 f Tryz.underlying176 Tryz.underlying43 Tryz.underlying5
  go_enter Tryz.func177, Tryz.ntmps177
  go_wp2_with fail
  have hb0 : Lib.IsBuilder 86 5 w.heap.size w.heap.size (Lib.byteCells []) (w.alloc (.cells #[.pointer none, .slice none 0 0] 86)) := by
    refine .inl ⟨Nat.le_refl _, .slice none 0 0, ?_, World.ownsRow_nil _ _ _ _, by simp [Value.ownBlock]⟩
    have e : ∀ o : Obj, (w.alloc o).heap = w.heap.push o := fun o => rfl
    rw [e]
    simp
  have HBa : Hid (Below w.heap.size w (w.alloc (.cells #[.pointer none, .slice none 0 0] 86))) := (Below.refl _ _).alloc (Nat.le_refl _) _
  have hza : (w.alloc (.cells #[.pointer none, .slice none 0 0] 86)).heap.size = w.heap.size + 1 := by simp
  have Hb0 : Hid _ := hb0
  clear hb0
  generalize (w.alloc (.cells #[.pointer none, .slice none 0 0] 86)) = W1 at *
  refine (Tryz.Builder_WriteByte w.heap.size w.heap.size (Lib.byteCells []) 34 W1 Hb0.out (by decide) (by omega)).mono ?_
  rintro e w2 ⟨rfl, hb2, hB2⟩
  have Hb2 : Hid (Lib.IsBuilder 86 5 w.heap.size w.heap.size (Lib.byteCells [34]) w2) := .inr hb2
  have HB2 : Hid (Below w.heap.size w w2) := HBa.out.trans hB2
  have hz2 := hB2.size
  clear hb2 hB2 Hb0
  go_wp2_with fail
  have hcell : (Lib.bytesWorld w2 5 ⟨#[c]⟩).cell? ⟨w2.heap.size, 0, none⟩ = some (.int .u8 c.toNat) := Lib.bytesWorld_cell w2 5 ⟨#[c]⟩ 0 Nat.zero_lt_one
  have hB3 : Below w2.heap.size w2 (Lib.bytesWorld w2 5 ⟨#[c]⟩) := bytes_below w2 _ _
  have Hb3 : Hid (Lib.IsBuilder 86 5 w.heap.size w.heap.size (Lib.byteCells [34]) (Lib.bytesWorld w2 5 ⟨#[c]⟩)) := builder_frame Hb2.out (fun k k1 k2 => hB3.block k k2)
  have HB3 : Hid (Below w.heap.size w (Lib.bytesWorld w2 5 ⟨#[c]⟩)) := HB2.out.trans (hB3.mono (by omega))
  have hz3 := hB3.size
  clear hB3 Hb2
  generalize Lib.bytesWorld w2 5 ⟨#[c]⟩ = w3 at *
  go_loopw [10] (fun i wr => (i = .int .i64 0 ∧ wr = w3) ∨ (i = .int .i64 1 ∧ Hid (Lib.IsBuilder 86 5 w.heap.size w.heap.size (Lib.byteCells [34, c]) wr) ∧ Hid (Below w.heap.size w wr))) (fun i _ => 1 - (intOf i).toNat)
  case atStart => exact .inl ⟨rfl, rfl⟩
  case round =>
    rcases hrel with ⟨rfl, rfl⟩ | ⟨rfl, hb4, hB4⟩
    · go_wp2_with fail
      refine (letter_byte w.heap.size w.heap.size [34] c wr Hb3.out (by decide) (by omega) h1 h2 h3 h4).mono ?_
      rintro e w5 ⟨rfl, hb5, hB5⟩
      have Hb5 : Hid _ := hb5
      have HB5 : Hid (Below w.heap.size w w5) := HB3.out.trans hB5
      clear hb5 hB5
      go_wp2_with fail
      go_roundw
      case rel => exact .inr ⟨by go_num, Hb5, HB5⟩
      case measure => simp [intOf]
    · have hz4 := hB4.out.size
      go_wp2_with fail
      refine (Tryz.Builder_WriteByte w.heap.size w.heap.size (Lib.byteCells [34, c]) 34 wr hb4.out (by rw [Lib.byteCells_length]; simp) (by omega)).mono ?_
      rintro e w5 ⟨rfl, hb5, hB5⟩
      have Hb5 : Hid (Lib.IsBuilder 86 5 w.heap.size w.heap.size (Lib.byteCells [34, c, 34]) w5) := .inr hb5
      have HB5 : Hid (Below w.heap.size w w5) := hB4.out.trans hB5
      have hz5 := hB5.size
      clear hb5 hB5
      go_wp2_with fail
      refine (Tryz.Builder_String_any w.heap.size w.heap.size [34, c, 34] w5 Hb5.out (by omega)).mono ?_
      rintro e w6 ⟨rfl, hB6⟩
      have HB6 : Hid (Below w.heap.size w w6) := HB5.out.trans hB6
      clear hB6
      go_wp2_with fail
      go_ret
      exact ⟨rfl, HB6.out⟩
theorem num_small (i : Nat) (hi : i < 100) (w : World) : Calls Tryz.prog 183 #[.int .i64 i] w fun e w' => e = .returned (.string ⟨(Lib.decDigits i).toArray⟩) ∧ Below w.heap.size w w' := by
  go_enter Tryz.func183, Tryz.ntmps183
  go_wp2_with fail
  refine (Tryz.strconv_Itoa_small i hi w).mono ?_
  rintro e w1 ⟨rfl, hw1⟩
  rw [hw1]
  clear hw1
  go_wp2_with fail
  go_ret
  exact ⟨rfl, Below.refl _ _⟩
end Go.Proofs.YtdebjhdafnpfkabGreatDoor
