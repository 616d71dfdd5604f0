import Derived.Test.YtdebjhdafnpfkabGreatDoorK02
import Derived.Test.YtdebjhdafnpfkabGreatDoorK23
namespace Go.Proofs.YtdebjhdafnpfkabGreatDoor
open Go.ChangeShapes Go.WideShapes Go.ChangeAt Go.RowKit
set_option linter.unusedVariables false
set_option linter.unusedSimpArgs false
variable {Y : Nat → Prop}
theorem rmk_size (r : ByteArray) : (rmk r).size ≤ r.size := by
  unfold rmk
  rw [ByteArray.size_extract]
  omega
/-- An entry as a walk meets it. -/
theorem ent_form {w : World} {v : Value} {t : It} (h : EntAt Y none w v t) : ∃ tt q, v = .iface tt (ptr q) ∧ w.cell? ⟨q, 0, none⟩ = some (.string (rmk t.rem)) ∧ w.cell? ⟨q, 1, none⟩ = some (.bool (decide (t.rem.size ≠ 0))) ∧
    (∀ w, (Go.method 361 tt (.pointer (some ⟨q, 0, none⟩)) "TellRemark").run Tryz.prog w = .ok (159, .pointer (some ⟨q, 0, none⟩)) w) ∧ (∀ w, (nilAhead 361 tt (.pointer (some ⟨q, 0, none⟩)) "TellRemark").run Tryz.prog w = .ok (some false) w) := by
  obtain ⟨S, _, q, _, c0, c1, _, hc⟩ := h
  rcases hc with ⟨_, rfl, _⟩ | ⟨_, rfl, _⟩ | ⟨_, rfl⟩
  · exact ⟨_, q, rfl, c0, c1, tmeth_hdr q, tahead_hdr q⟩
  · exact ⟨_, q, rfl, c0, c1, tmeth_pair q, tahead_pair q⟩
  · exact ⟨_, q, rfl, c0, c1, tmeth_bare q, tahead_bare q⟩
set_option maxHeartbeats 1000000 in
theorem remarkBehind_any (x : ByteArray) (v : Value) (t : It) (w : World) (h : EntAt Y none w v t) (hr : t.rem.size ≤ 100000) :
    Calls Tryz.prog 54 #[.string x, v] w fun e w' => e = .returned (.string (behS x t)) ∧ Below w.heap.size w w' := by
  obtain ⟨tt, q, rfl, c0, c1, M1, M2⟩ := ent_form h
  have HF : Hid (behS x t = if t.rem.size = 0 then ⟨#[]⟩ else if x.size = 0 then trimS (rmk t.rem) else ⟨#[32, 32]⟩ ++ trimS (rmk t.rem)) := rfl
  have hz := rmk_size t.rem
  have hz2 := cutR_size (rmk t.rem)
  have hz3 : Hid ((trimS (rmk t.rem)).size ≤ 200000) := by
    unfold Hid trimS
    split
    · rw [ByteArray.size_append]; show 1 + _ ≤ _; omega
    · rw [ByteArray.size_append]; show 2 + _ ≤ _; omega
  by_cases h0 : t.rem.size = 0
  · have e1 : decide (t.rem.size ≠ 0) = false := by simpa using h0
    rw [e1] at c1
    have Fin : Hid (behS x t = ⟨#[]⟩) := by unfold Hid; rw [HF.out, if_pos h0]
    clear h0 e1
    go_enter Tryz.func54, Tryz.ntmps54
    go_wp2_with fail
    refine (tell_any q _ _ _ c0 c1).mono ?_
    rintro e w1 ⟨rfl, n, rfl⟩
    go_wp2_with fail
    go_ret
    exact ⟨congrArg (fun z => Ending.returned (.string z)) Fin.out.symm, qbelow_drewN (Below.refl _ _) n⟩
  · have e1 : decide (t.rem.size ≠ 0) = true := by simpa using h0
    rw [e1] at c1
    by_cases hx : x.size = 0
    · have te : x.toList.isEmpty = true := by rw [toList_empty]; exact decide_eq_true hx
      have Fin : Hid (behS x t = trimS (rmk t.rem)) := by unfold Hid; rw [HF.out, if_neg h0, if_pos hx]
      clear h0 e1 hx
      go_enter Tryz.func54, Tryz.ntmps54
      go_wp2_with fail
      refine (tell_any q _ _ _ c0 c1).mono ?_
      rintro e w1 ⟨rfl, n, hw1⟩
      have HB1 : Hid (Below w.heap.size w w1) := by rw [hw1]; exact qbelow_drewN (Below.refl _ _) n
      clear hw1
      go_wp2_with fail
      refine (trimmed_any (rmk t.rem) w1 (by omega)).mono ?_
      rintro e w2 ⟨rfl, hB2⟩
      have HB2 : Hid (Below w.heap.size w w2) := HB1.out.trans (hB2.mono HB1.out.size)
      clear hB2
      go_wp2_with fail
      go_ret
      exact ⟨congrArg (fun z => Ending.returned (.string z)) Fin.out.symm, HB2.out⟩
    · have te : x.toList.isEmpty = false := by rw [toList_empty]; exact decide_eq_false hx
      have Fin : Hid (behS x t = ⟨#[32, 32]⟩ ++ trimS (rmk t.rem)) := by unfold Hid; rw [HF.out, if_neg h0, if_neg hx]
      clear h0 e1 hx
      go_enter Tryz.func54, Tryz.ntmps54
      go_wp2_with fail
      refine (tell_any q _ _ _ c0 c1).mono ?_
      rintro e w1 ⟨rfl, n, hw1⟩
      have HB1 : Hid (Below w.heap.size w w1) := by rw [hw1]; exact qbelow_drewN (Below.refl _ _) n
      clear hw1
      go_wp2_with fail
      refine (trimmed_any (rmk t.rem) w1 (by omega)).mono ?_
      rintro e w2 ⟨rfl, hB2⟩
      have HB2 : Hid (Below w.heap.size w w2) := HB1.out.trans (hB2.mono HB1.out.size)
      have hz4 := hz3.out
      clear hB2
      go_wp2_with fail
      go_ret
      exact ⟨congrArg (fun z => Ending.returned (.string z)) Fin.out.symm, HB2.out⟩
theorem behS_size (x : ByteArray) (t : It) (hr : t.rem.size ≤ 100000) : (behS x t).size ≤ 200100 := by
  have hz := rmk_size t.rem
  have hz2 := cutR_size (rmk t.rem)
  have hz3 : (trimS (rmk t.rem)).size ≤ 100002 := by
    unfold trimS
    split
    · rw [ByteArray.size_append]; show 1 + _ ≤ _; omega
    · rw [ByteArray.size_append]; show 2 + _ ≤ _; omega
  unfold behS
  split
  · exact Nat.zero_le _
  · split
    · omega
    · rw [ByteArray.size_append]; show 2 + _ ≤ _; omega
/-- What its flat text is. -/
def FlatsTo (b B : Nat) (w0 : World) (v : Value) (out : ByteArray) : Prop := ∃ tt u fid, v = .iface tt u ∧ (∀ w, (Go.method 361 tt u "Flat").run Tryz.prog w = .ok (fid, u) w) ∧ (∀ w, (nilAhead 361 tt u "Flat").run Tryz.prog w = .ok (some false) w) ∧
  (∀ args w, (callFunc fid args).run Tryz.prog w = .ok (.enter fid args) w) ∧ ∀ w, Kp b B w0 w → B ≤ w.heap.size → Calls Tryz.prog fid #[u] w fun e w' => e = .returned (.string out) ∧ Below w.heap.size w w'
set_option maxRecDepth 100000 in
set_option maxHeartbeats 2000000 in
/-- A value that is laid flat. -/
theorem layValue_flat (b B : Nat) (wd : Int) (bs : List Value) (ah out be : ByteArray) (v : Value) (dep : Int) (ad : Option Addr) (n cap : Nat) (ok : Bool) (w0 w : World) (hP : PageAt B w b wd bs) (hk : Kp b B w0 w) (hBw : B ≤ w.heap.size)
    (hF : FlatsTo b B w0 v out) (hA : ∀ w, (Instr.typeAssert v 66 164 true).run Tryz.prog w = .ok (.tuple #[.slice ad n cap, .bool ok]) w) (hn : n = 0 ∨ ((ah ++ out ++ be).size : Int) ≤ wd)
    (z1 : ah.size ≤ 1000000) (z2 : out.size ≤ 1000000) (z3 : be.size ≤ 1000000) (zb : bs.length ≤ 100000000000000) :
    Calls Tryz.prog 56 #[ptr b, .string ah, v, .string be, .int .i64 dep] w fun e w' => e = .returned (.tuple #[]) ∧ PageAt B w' b wd (bs ++ Lib.strCells (ah ++ out ++ be) ++ [.int .u8 10]) ∧ Kp b B w0 w' := by
  obtain ⟨tt, u, fid, rfl, M1, M2, M3, hC⟩ := hF
  have HP : Hid (PageAt B w b wd bs) := hP
  have HK : Hid (Kp b B w0 w) := hk
  have HC : Hid _ := hC
  have Hsz : Hid ((ah ++ out ++ be).size = ah.size + out.size + be.size) := by unfold Hid; rw [ByteArray.size_append, ByteArray.size_append]
  clear hP hk hC
  go_enter Tryz.func56, Tryz.ntmps56
  go_wp2_with fail
  refine (HC.out w HK.out hBw).mono ?_
  rintro e w1 ⟨rfl, hB1⟩
  have HP1 : Hid (PageAt B w1 b wd bs) := HP.out.frame hB1
  have HK1 : Hid (Kp b B w0 w1) := HK.out.below hB1 hBw
  have hz1 := hB1.size
  have wdc : w1.cell? ⟨b, 2, none⟩ = some (.int .i64 wd) := by
    rcases HP1.out with ⟨_, v', hb, _⟩ | ⟨_, v', hb, _⟩ <;> (rw [Lib.cell_of_heap hb]; rfl)
  clear hB1 HP HK
  rcases hn with rfl | hn
  · go_wp2_with fail
    refine (writeLine_any B b wd bs (ah ++ out ++ be) w1 HP1.out (by have := Hsz.out; omega) (by omega)).mono ?_
    rintro e w2 ⟨rfl, hP2, hK2⟩
    have HP2 : Hid _ := hP2
    have HK2 : Hid (Kp b B w0 w2) := HK1.out.trans hK2
    clear hP2 hK2
    go_wp2_with fail
    go_returns
    exact ⟨rfl, HP2.out, HK2.out⟩
  · by_cases h0 : n = 0
    · subst h0
      go_wp2_with fail
      refine (writeLine_any B b wd bs (ah ++ out ++ be) w1 HP1.out (by have := Hsz.out; omega) (by omega)).mono ?_
      rintro e w2 ⟨rfl, hP2, hK2⟩
      have HP2 : Hid _ := hP2
      have HK2 : Hid (Kp b B w0 w2) := HK1.out.trans hK2
      clear hP2 hK2
      go_wp2_with fail
      go_returns
      exact ⟨rfl, HP2.out, HK2.out⟩
    · have t0 : ((n : Int) == 0) = false := by simp; omega
      have t1 : (ah.size : Int) + out.size + be.size ≤ wd := by have := Hsz.out; rw [this] at hn; omega
      clear hn
      clear h0
      go_wp2_with fail
      refine (writeLine_any B b wd bs (ah ++ out ++ be) w1 HP1.out (by have := Hsz.out; omega) (by omega)).mono ?_
      rintro e w2 ⟨rfl, hP2, hK2⟩
      have HP2 : Hid _ := hP2
      have HK2 : Hid (Kp b B w0 w2) := HK1.out.trans hK2
      clear hP2 hK2
      go_wp2_with fail
      go_returns
      exact ⟨rfl, HP2.out, HK2.out⟩
set_option maxRecDepth 100000 in
set_option maxHeartbeats 600000 in
theorem layOther_any (b B : Nat) (wd : Int) (bs : List Value) (v : Value) (t : It) (w : World) (hP : PageAt B w b wd bs) (hBw : B ≤ w.heap.size) (h : EntAt Y none w v t) (hk : t.k ≠ 61) (hr : t.rem.size ≤ 100000) (hp : (jn t.path).size ≤ 100000) (zb : bs.length ≤ 100000000000000) :
    Calls Tryz.prog 33 #[ptr b, v] w fun e w' => e = .returned (.tuple #[]) ∧ PageAt B w' b wd (bs ++ Lib.strCells (otherS t) ++ [.int .u8 10]) ∧ Kp b B w w' := by
  have HP : Hid (PageAt B w b wd bs) := hP
  have HE : Hid (EntAt Y none w v t) := h
  clear hP
  obtain ⟨S, hS, q, sq, c0, c1, _, hc⟩ := h
  clear c0 c1
  rcases hc with ⟨hk1, rfl, c2⟩ | ⟨hk1, _⟩ | ⟨hk1, rfl⟩
  · have A1 := ash_hdr
    have z1 := behS_size ((⟨#[91]⟩ : ByteArray) ++ jn t.path ++ (⟨#[93]⟩ : ByteArray)) t hr
    have HF : Hid (otherS t = (⟨#[91]⟩ : ByteArray) ++ jn t.path ++ (⟨#[93]⟩ : ByteArray) ++ behS ((⟨#[91]⟩ : ByteArray) ++ jn t.path ++ (⟨#[93]⟩ : ByteArray)) t) := by unfold Hid otherS; rw [if_pos hk1]
    have Hsz : Hid (((⟨#[91]⟩ : ByteArray) ++ jn t.path ++ (⟨#[93]⟩ : ByteArray) ++ behS ((⟨#[91]⟩ : ByteArray) ++ jn t.path ++ (⟨#[93]⟩ : ByteArray)) t).size ≤ 400000) := by
      unfold Hid
      have e1 : (⟨#[91]⟩ : ByteArray).size = 1 := rfl
      have e2 : (⟨#[93]⟩ : ByteArray).size = 1 := rfl
      rw [ByteArray.size_append, ByteArray.size_append, ByteArray.size_append, e1, e2]
      omega
    clear hk1 hk
    go_enter Tryz.func33, Tryz.ntmps33
    go_wp2_with fail
    refine (remarkBehind_any _ _ t w HE.out hr).mono ?_
    rintro e w1 ⟨rfl, hB1⟩
    have HP1 : Hid (PageAt B w1 b wd bs) := HP.out.frame hB1
    have HK1 : Hid (Kp b B w w1) := (Kp.refl b B w).below hB1 hBw
    have hz1 := hB1.size
    clear hB1 HP
    go_wp2_with fail
    refine (writeLine_any B b wd bs _ w1 HP1.out (by have := Hsz.out; omega) (by omega)).mono ?_
    rintro e w2 ⟨rfl, hP2, hK2⟩
    rw [← HF.out] at hP2
    have HP2 : Hid _ := hP2
    have HK2 : Hid (Kp b B w w2) := HK1.out.trans hK2
    clear hP2 hK2
    go_wp2_with fail
    go_returns
    exact ⟨rfl, HP2.out, HK2.out⟩
  · exact absurd hk1 hk
  · have A1 := ash_bare
    have z1 := behS_size ⟨#[]⟩ t hr
    have HF : Hid (otherS t = (⟨#[]⟩ : ByteArray) ++ behS ⟨#[]⟩ t) := by
      unfold Hid otherS
      rw [if_neg (by omega)]
      exact (ByteArray.empty_append (b := behS ⟨#[]⟩ t)).symm
    clear hk1 hk
    have Hsz : Hid (((⟨#[]⟩ : ByteArray) ++ behS ⟨#[]⟩ t).size ≤ 400000) := by
      unfold Hid
      have e1 : (⟨#[]⟩ : ByteArray).size = 0 := rfl
      rw [ByteArray.size_append, e1]
      omega
    go_enter Tryz.func33, Tryz.ntmps33
    go_wp2_with fail
    refine (remarkBehind_any _ _ t w HE.out hr).mono ?_
    rintro e w1 ⟨rfl, hB1⟩
    have HP1 : Hid (PageAt B w1 b wd bs) := HP.out.frame hB1
    have HK1 : Hid (Kp b B w w1) := (Kp.refl b B w).below hB1 hBw
    have hz1 := hB1.size
    clear hB1 HP
    go_wp2_with fail
    refine (writeLine_any B b wd bs _ w1 HP1.out (by have := Hsz.out; omega) (by omega)).mono ?_
    rintro e w2 ⟨rfl, hP2, hK2⟩
    rw [← HF.out] at hP2
    have HP2 : Hid _ := hP2
    have HK2 : Hid (Kp b B w w2) := HK1.out.trans hK2
    clear hP2 hK2
    go_wp2_with fail
    go_returns
    exact ⟨rfl, HP2.out, HK2.out⟩
end Go.Proofs.YtdebjhdafnpfkabGreatDoor

namespace Go.Proofs.YtdebjhdafnpfkabGreatDoor
open Go.ChangeShapes Go.WideShapes Go.ChangeAt Go.RowKit
set_option linter.unusedVariables false
set_option linter.unusedSimpArgs false
def pairS (fl : It → ByteArray) (room : Nat) (t : It) : ByteArray := startS room t ++ fl t ++ behS (startS room t) t
def lineC (s : ByteArray) : List Value := Lib.strCells s ++ [.int .u8 10]
def linesC (ss : List ByteArray) : List Value := (ss.map lineC).flatten
theorem linesC_snoc (ss : List ByteArray) (s : ByteArray) : linesC (ss ++ [s]) = linesC ss ++ Lib.strCells s ++ [.int .u8 10] := by
  unfold linesC lineC
  simp
theorem room_take (l : List It) (k : Nat) (hk : k < l.length) : roomOf (l.take (k + 1)) = max (roomOf (l.take k)) (jn l[k].path).size := by
  unfold roomOf
  rw [List.take_succ_eq_append_getElem hk, List.foldl_append]
  rfl
theorem room_mono (l : List It) (k : Nat) : roomOf (l.take k) ≤ roomOf l := by
  have key : ∀ (l : List It) (r : Nat), r ≤ l.foldl (fun r t => max r (jn t.path).size) r := by
    intro l
    induction l with
    | nil => intro r; exact Nat.le_refl _
    | cons a l ih => intro r; exact Nat.le_trans (Nat.le_max_left _ _) (ih _)
  unfold roomOf
  conv => rhs; rw [← List.take_append_drop k l, List.foldl_append]
  exact key _ _
theorem room_ge (l : List It) (k : Nat) (hk : k < l.length) : (jn l[k].path).size ≤ roomOf l := by
  have h1 := room_mono l (k + 1)
  rw [room_take l k hk] at h1
  omega
theorem room_le (l : List It) (n : Nat) (h : ∀ t ∈ l, (jn t.path).size ≤ n) : roomOf l ≤ n := by
  have key : ∀ (l : List It) (r : Nat), r ≤ n → (∀ t ∈ l, (jn t.path).size ≤ n) → l.foldl (fun r t => max r (jn t.path).size) r ≤ n := by
    intro l
    induction l with
    | nil => intro r hr _; exact hr
    | cons a l ih => intro r hr h; exact ih _ (Nat.max_le.2 ⟨hr, h a (by simp)⟩) (fun t ht => h t (by simp [ht]))
  exact key l 0 (Nat.zero_le _) h
/-- A pair that is laid flat. -/
structure PairLay (b B : Nat) (w : World) (wd : Int) (room : Nat) (fl : It → ByteArray) (q : Nat) (t : It) : Prop where
  lt : q < B
  ne : q ≠ b
  path : w.cell? ⟨q, 2, none⟩ = some (.string (jn t.path))
  ent : ∃ S : Nat → Prop, (∀ k, S k → k < B ∧ k ≠ b) ∧ PEnt S w (pairV q) t
  val : ∃ pv, w.cell? ⟨q, 4, none⟩ = some pv ∧ FlatsTo b B w pv (fl t) ∧ ∃ ad n cap ok, (∀ w, (Instr.typeAssert pv 66 164 true).run Tryz.prog w = .ok (.tuple #[.slice ad n cap, .bool ok]) w) ∧ (n = 0 ∨ ((pairS fl room t).size : Int) ≤ wd)
  zp : (jn t.path).size ≤ 100
  zr : t.rem.size ≤ 100000
  zf : (fl t).size ≤ 1000000
theorem owns_kp {b B : Nat} {w w' : World} {base : Nat} {e : TypeId} {v : Value} {n : Nat} {xs : List Value} (h : w.ownsRow base e 1 v n xs) (hk : Kp b B w w') (he : e ≠ 5) (hb : b < base) : w'.ownsRow base e 1 v n xs := by
  refine ⟨h.1, ?_⟩
  rcases h.2 with hn | ⟨g, cap, cur, rfl, hg, hgg, rest⟩
  · exact .inl hn
  · exact .inr ⟨g, cap, cur, rfl, hg, (hk.typ g _ _ _ hgg he (by omega)).trans hgg, rest⟩
set_option maxRecDepth 100000 in
set_option maxHeartbeats 2000000 in
theorem layBlock_any (b B : Nat) (wd : Int) (bs : List Value) (bv : Value) (qs : List Nat) (l : List It) (fl : It → ByteArray) (w : World) (hP : PageAt B w b wd bs) (hBw : B ≤ w.heap.size) (hbB : b < B)
    (ho : w.ownsRow B 61 1 bv qs.length (qs.map ptr)) (hl : qs.length ≤ l.length ∧ l.length ≤ qs.length) (hlen : l.length ≤ 8000)
    (hq : ∀ (i q : Nat) (t : It), qs[i]? = some q → l[i]? = some t → PairLay b B w wd (roomOf l) fl q t) (zb : bs.length ≤ 10000000000000) :
    Calls Tryz.prog 34 #[ptr b, bv] w fun e w' => e = .returned (.tuple #[]) ∧ PageAt B w' b wd (bs ++ linesC (l.map (pairS fl (roomOf l)))) ∧ Kp b B w w' := by
  obtain ⟨ap, cp, ep⟩ := ownsS_form ho
  subst ep
  have HO : Hid (w.ownsRow B 61 1 (.slice ap qs.length cp) qs.length (qs.map ptr)) := ho
  have HP : Hid (PageAt B w b wd bs) := hP
  have HQ : Hid _ := hq
  have hroom : roomOf l ≤ 100 := room_le l 100 (fun t ht => by
    obtain ⟨i, hi, rfl⟩ := List.getElem_of_mem ht
    exact (hq i (qs[i]'(by omega)) l[i] (List.getElem?_eq_getElem _) (List.getElem?_eq_getElem _)).zp)
  clear ho hP hq
  go_enter Tryz.func34, Tryz.ntmps34
  go_wp2_with fail
  go_loopw [4, 12] (fun rv i wr => ∃ k : Nat, k ≤ qs.length ∧ i = .int .i64 k ∧ ∃ r : Nat, rv = .int .i64 r ∧ Hid (r = roomOf (l.take k)) ∧ r ≤ 100 ∧ wr = w) (fun _ i _ => qs.length - (intOf i).toNat)
  case atStart => exact ⟨0, Nat.zero_le _, rfl, 0, rfl, rfl, by omega, rfl⟩
  case round =>
    obtain ⟨k, hk, rfl, r, rfl, hr, hr100, rfl⟩ := hrel
    by_cases hkl : k < qs.length
    · have hkl2 : k < l.length := by omega
      obtain ⟨g, hg, hg1, hg2, hgc⟩ := rowv_cell HO.out k (ptr qs[k]) (by rw [List.getElem?_map, List.getElem?_eq_getElem hkl]; rfl)
      subst hg
      have hPL := HQ.out k qs[k] l[k] (List.getElem?_eq_getElem hkl) (List.getElem?_eq_getElem hkl2)
      have hpa := hPL.path
      have hzp := hPL.zp
      have Hnx : Hid (roomOf (l.take (k + 1)) = max r (jn l[k].path).size) := by unfold Hid; rw [room_take l k hkl2, ← hr.out]
      clear hPL hr
      generalize qs[k] = q1 at *
      generalize l[k] = t at *
      go_wp2_with fail
      go_roundw
      case rel => exact ⟨k + 1, by omega, by go_num, max r (jn t.path).size, by congr 1; omega, Hnx.out.symm, by omega, trivial⟩
      case measure => simp [intOf]; omega
    · have hrl : r = roomOf l := by
        have h1 := hr.out
        rw [List.take_of_length_le (by omega)] at h1
        exact h1
      clear hr
      subst hrl
      obtain ⟨wo, hwo⟩ : ∃ wo, wo = wr := ⟨wr, rfl⟩
      subst hwo
      have HPL : Hid (∀ (i q : Nat) (t : It), qs[i]? = some q → l[i]? = some t → PairLay b B wo wd (roomOf l) fl q t) := HQ
      clear HQ
      have Hr : Hid (∀ k, k < l.length → ∀ t, l[k]? = some t → (jn t.path).size ≤ roomOf l) := fun k hk t ht => by
        have := room_ge l k hk
        rw [List.getElem?_eq_getElem hk] at ht
        cases ht
        exact this
      generalize hR : roomOf l = R at *
      go_wp2_with fail
      go_loopw [26] (fun i w2 => ∃ k : Nat, k ≤ qs.length ∧ i = .int .i64 k ∧ Hid (PageAt B w2 b wd (bs ++ linesC ((l.take k).map (pairS fl R)))) ∧ Hid ((bs ++ linesC ((l.take k).map (pairS fl R))).length ≤ 10000000000000 + k * 3000000) ∧ Hid (Kp b B wo w2)) (fun i _ => qs.length - (intOf i).toNat)
      case atStart => exact ⟨0, Nat.zero_le _, rfl, by simpa [linesC] using HP, by unfold Hid; simpa [linesC] using zb, Kp.refl _ _ _⟩
      case round =>
        obtain ⟨k, hk, rfl, hP2, hlb, hK2⟩ := hrel
        by_cases hkl : k < qs.length
        · have hkl2 : k < l.length := by omega
          obtain ⟨g, hg, hg1, hg2, hgc⟩ := rowv_cell (owns_kp HO.out hK2.out (by decide) hbB) k (ptr qs[k]) (by rw [List.getElem?_map, List.getElem?_eq_getElem hkl]; rfl)
          subst hg
          have hPL := HPL.out k qs[k] l[k] (List.getElem?_eq_getElem hkl) (List.getElem?_eq_getElem hkl2)
          have hrk : (jn l[k].path).size ≤ R := Hr.out k hkl2 _ (List.getElem?_eq_getElem hkl2)
          have hnx : Hid ((l.take (k + 1)).map (pairS fl R) = (l.take k).map (pairS fl R) ++ [pairS fl R l[k]]) := by
            unfold Hid
            rw [List.take_succ_eq_append_getElem hkl2, List.map_append]
            rfl
          generalize qs[k] = q1 at *
          generalize l[k] = t at *
          obtain ⟨p1, p2, p3, ⟨S, hS, hPE⟩, ⟨pv, c4, hfl, ad, n, cap, ok, hA, hn⟩, zp, zr, zf⟩ := hPL
          have c2 := (hK2.out.cell (p := ⟨q1, 2, none⟩) p1 p2).trans p3
          have c4' := (hK2.out.cell (p := ⟨q1, 4, none⟩) p1 p2).trans c4
          have hz2 := hK2.out.size
          have HA : Hid _ := hA
          have HN : Hid (n = 0 ∨ ((pairS fl R t).size : Int) ≤ wd) := hn
          have HFL : Hid (FlatsTo b B wo pv (fl t)) := hfl
          have HPE : Hid (PEnt S wr (pairV q1) t) := hPE.frame (fun j hj => hK2.out.block j (hS j hj).1 (hS j hj).2)
          have HS : Hid _ := hS
          obtain ⟨vt, vu, fid, hvf, _⟩ := hfl
          subst hvf
          clear hPE p3 c4 hA hn hS
          obtain ⟨sp, hsp, hspz, HR⟩ : ∃ sp : ByteArray, Hid (sp = spS (R - (jn t.path).size)) ∧ sp.size ≤ 100 ∧ Hid (∀ w, Calls Tryz.prog 55 #[.string ⟨#[32]⟩, .int .i64 ((R : Int) - ((jn t.path).size : Int))] w fun e w' => e = .returned (.string sp) ∧ ∃ n, w' = w.drewN n) :=
            ⟨_, rfl, by rw [spS_size]; omega, fun w => by rw [show ((R : Int) - ((jn t.path).size : Int)) = ((R - (jn t.path).size : Nat) : Int) by omega]; exact rep_one _ (by omega) w⟩
          have Hsz : Hid ((startS R t).size ≤ 300) := by
            unfold Hid startS
            have e1 : eqS.size = 3 := rfl
            rw [ByteArray.size_append, ByteArray.size_append, spS_size, e1]
            omega
          go_wp2_with fail
          go_quiet ((go_at_call 55; exact Calls.quiet_of (HR.out _)))
          obtain ⟨st, hst, hstz, hsts⟩ : ∃ st : ByteArray, jn t.path ++ sp ++ ⟨#[32, 61, 32]⟩ = st ∧ st.size ≤ 300 ∧ Hid (st = startS R t) := by
            have e1 : jn t.path ++ sp ++ ⟨#[32, 61, 32]⟩ = startS R t := by rw [hsp.out]; rfl
            exact ⟨_, e1, Hsz.out, rfl⟩
          rw [hst]
          have g4 : (wr.drewN nq).cell? ⟨q1, 4, none⟩ = some (.iface vt vu) := c4'
          have gP : Hid (PageAt B (wr.drewN nq) b wd (bs ++ linesC ((l.take k).map (pairS fl R)))) := hP2.out.frame (qbelow_drewN (Below.refl _ _) nq)
          have gK : Hid (Kp b B wo (wr.drewN nq)) := hK2.out.trans (Kp.all (qbelow_drewN (Below.refl _ _) nq) (by omega))
          have gE : Hid (PEnt S (wr.drewN nq) (pairV q1) t) := HPE.out.frame (fun j hj => rfl)
          have gz : B ≤ (wr.drewN nq).heap.size := by show B ≤ wr.heap.size; omega
          clear hst hsp hspz HR c2 c4' hP2 hK2 HPE hgc hz2
          generalize wr.drewN nq = w3 at *
          have HK4 : Hid (∀ w4, Below w3.drew.heap.size w3.drew w4 → w4.cell? ⟨q1, 4, none⟩ = some (.iface vt vu)) := fun w4 h => (h.cell (p := ⟨q1, 4, none⟩) (lt_of_cell g4)).trans g4
          have HPP : Hid (∀ w4, Below w3.drew.heap.size w3.drew w4 → PageAt B w4 b wd (bs ++ linesC ((l.take k).map (pairS fl R))) ∧ Kp b B wo w4 ∧ B ≤ w4.heap.size) := fun w4 h => by
            have h' : Below w3.heap.size w3 w4 := ⟨h.os, h.tape, h.output, h.size, fun j hj => h.block j hj⟩
            exact ⟨gP.out.frame h', gK.out.below h' gz, by have := h'.size; omega⟩
          have HEA : Hid (EntAt (fun _ => True) none w3.drew (pairV q1) t) := ⟨S, fun j hj => ⟨by have := (HS.out j hj).1; show j < w3.heap.size; omega, by simp, trivial⟩, gE.out.frame (fun j hj => rfl)⟩
          have HN2 : Hid (n = 0 ∨ ((st ++ fl t ++ behS st t).size : Int) ≤ wd) := by
            unfold Hid
            rw [hsts.out]
            exact HN.out
          have hbz := behS_size st t zr
          have Hnx2 : Hid (bs ++ linesC ((l.take k).map (pairS fl R)) ++ Lib.strCells (st ++ fl t ++ behS st t) ++ [.int .u8 10] = bs ++ linesC ((l.take (k + 1)).map (pairS fl R))) := by
            unfold Hid
            rw [hnx.out, linesC_snoc, hsts.out]
            unfold pairS
            simp only [List.append_assoc]
          have Hlb2 : Hid ((bs ++ linesC ((l.take (k + 1)).map (pairS fl R))).length ≤ 10000000000000 + (k + 1) * 3000000) := by
            unfold Hid
            rw [← Hnx2.out]
            have h1 := hlb.out
            have h2 : (st ++ fl t ++ behS st t).size ≤ 1500000 := by
              rw [ByteArray.size_append, ByteArray.size_append]
              omega
            rw [List.length_append, List.length_append, Lib.strCells_length]
            simp only [List.length_cons, List.length_nil]
            omega
          have hz100 : Hid ((bs ++ linesC ((l.take k).map (pairS fl R))).length ≤ 100000000000000) := by
            have h1 := hlb.out
            unfold Hid
            omega
          clear hnx HN gE gK gP HPL hlb HS
          go_wp2_with fail
          go_region_with (first | (go_at_call 54; refine (remarkBehind_any st (pairV q1) t w3.drew HEA.out zr).mono ?_; rintro e w4 ⟨rfl, hB4⟩; have k4 := HK4.out w4 hB4) | (go_at_call 56; refine (layValue_flat b B wd _ st (fl t) (behS st t) (.iface vt vu) 0 ad n cap ok wo w4 (HPP.out w4 hB4).1 (HPP.out w4 hB4).2.1 (HPP.out w4 hB4).2.2 HFL.out HA.out HN2.out ?_ zf ?_ hz100.out).mono ?_; (· omega); (· omega); rintro e w5 ⟨rfl, hP5, hK5⟩))
          all_goals (rw [Hnx2.out] at hP5)
          all_goals (have HP5 : Hid _ := hP5; have HK5 : Hid _ := hK5; clear hP5 hK5 hB4)
          all_goals (go_wp2_with fail)
          all_goals (
            go_roundw
            case rel => exact ⟨k + 1, by omega, by go_num, HP5, Hlb2, HK5⟩
            case measure => simp [intOf]; omega)
        · have Fin : Hid (PageAt B wr b wd (bs ++ linesC (l.map (pairS fl R)))) := by
            have h1 := hP2.out
            rw [List.take_of_length_le (by omega)] at h1
            exact h1
          clear hP2 hlb
          go_wp2_with fail
          go_returns
          exact ⟨rfl, by rw [hR]; exact Fin.out, hK2.out⟩
end Go.Proofs.YtdebjhdafnpfkabGreatDoor
