import Derived.Test.YtdebjhdafnpfkabGreatDoorK29
import Derived.Test.YtdebjhdafnpfkabGreatDoorK40
import Derived.Test.YtdebjhdafnpfkabGreatDoorK32
import Derived.Test.YtdebjhdafnpfkabGreatDoorK22
namespace Go.Proofs.YtdebjhdafnpfkabGreatDoor
open Go.ChangeShapes Go.WideShapes Go.ChangeAt Go.RowKit
set_option linter.unusedVariables false
set_option linter.unusedSimpArgs false
theorem info_thing : (Tryz.prog.info? 57).map (fun i => (i.zero, i.size, i.bytes)) = some (some (.agg #[.int .u8 0, .slice none 0 0, .slice none 0 0, .string ⟨#[]⟩, .string ⟨#[]⟩]), 5, 88) := by kernel_rfl
/-- A table's name, as made keeps it. -/
def tabT (tab : List ByteArray) : ByteArray := match tab with
  | [] => ⟨#[]⟩
  | t :: _ => t ++ ⟨#[46]⟩
theorem tabT_jn {tab : List ByteArray} (h : tab = [] ∨ ∃ m, m < 20 ∧ tab = [tbB m]) (n : ByteArray) : tabT tab ++ n = jn (tab ++ [n]) := by
  rcases h with rfl | ⟨m, _, rfl⟩
  · exact nil_app n
  · rfl
theorem th_size (c : Int) : (thP c).size ≤ 500 ∧ (thO c).size ≤ 500 := by
  have h1 := one_size (thK c) (c.tdiv 9)
  have h2 := lst_size (fun i => oneP (thK c) (thA c i)) (fun i => oneO (thK c) (thA c i)) (fun i => (one_size _ _).1) (fun i => (one_size _ _).2) (thN c)
  have h3 : thN c < 9 := pk_lt (c.tdiv 9) 9 (by decide)
  have e1 : (⟨#[93]⟩ : ByteArray).size = 1 := rfl
  unfold thP thO
  split
  · simp only [ByteArray.size_append]; omega
  · omega
theorem nm_size (i : Nat) (c : Int) : (nmB i c).size ≤ 40 := by
  unfold nmB nmK
  have := dig_size i
  rw [ByteArray.size_append, ByteArray.size_extract]
  have e : keyS.size = 10 := rfl
  omega
theorem hd_size (i : Nat) (c : Int) : (hdP i c).size ≤ 40 ∧ (hdO i c).size ≤ 40 := by
  have := dig_size i
  unfold hdP hdO
  refine ⟨?_, ?_⟩
  · split
    · simp only [ByteArray.size_append]; show 2 + _ + 2 ≤ 40; omega
    · split
      · decide
      · split
        · simp only [ByteArray.size_append]; show 3 + _ + 1 ≤ 40; omega
        · decide
  · split
    · simp only [ByteArray.size_append]; show 4 + _ + 4 ≤ 40; omega
    · split
      · decide
      · split
        · simp only [ByteArray.size_append]; show 4 + _ + 3 ≤ 40; omega
        · decide
theorem pr_size (i : Nat) (c : Int) : (prP i c).size ≤ 700 ∧ (prO i c).size ≤ 700 := by
  have h1 := dig_size i
  have h2 := nm_size i c
  have h3 := th_size (c.tdiv 11)
  unfold prP prO
  simp only [ByteArray.size_append]
  have e1 : (⟨#[32, 61, 32]⟩ : ByteArray).size = 3 := rfl
  have e2 : (⟨#[10]⟩ : ByteArray).size = 1 := rfl
  have e3 : (⟨#[9, 32]⟩ : ByteArray).size = 2 := rfl
  have e4 : (⟨#[61]⟩ : ByteArray).size = 1 := rfl
  have e5 : (⟨#[32, 10]⟩ : ByteArray).size = 2 := rfl
  have e6 : (if rk c = true then (⟨#[32, 35, 32, 115]⟩ : ByteArray) ++ dgtB i else ⟨#[]⟩).size ≤ 30 := by
    split
    · rw [ByteArray.size_append]; show 4 + _ ≤ 30; omega
    · decide
  have e7 : (if rk c = true then (⟨#[35, 115]⟩ : ByteArray) ++ dgtB i ++ ⟨#[32, 32]⟩ else ⟨#[]⟩).size ≤ 30 := by
    split
    · simp only [ByteArray.size_append]; show 2 + _ + 2 ≤ 30; omega
    · decide
  omega
theorem l1 : (⟨#[91, 116]⟩ : ByteArray).size = 2 := rfl
theorem l2 : (⟨#[93, 10]⟩ : ByteArray).size = 2 := rfl
theorem l3 : (⟨#[10]⟩ : ByteArray).size = 1 := rfl
theorem l4 : (⟨#[35, 32, 114]⟩ : ByteArray).size = 3 := rfl
theorem l5 : (⟨#[9, 91, 32, 116]⟩ : ByteArray).size = 4 := rfl
theorem l6 : (⟨#[9, 93, 32, 10]⟩ : ByteArray).size = 4 := rfl
theorem l7 : (⟨#[32, 9, 10, 10]⟩ : ByteArray).size = 4 := rfl
theorem l8 : (⟨#[32, 32, 35, 114]⟩ : ByteArray).size = 4 := rfl
theorem l9 : (⟨#[32, 9, 10]⟩ : ByteArray).size = 3 := rfl
theorem l10 : (⟨#[116]⟩ : ByteArray).size = 1 := rfl
theorem l11 : (⟨#[46]⟩ : ByteArray).size = 1 := rfl
theorem mk_size (raw : List Int) : ∀ k, (mkP raw k).size ≤ 800 * k ∧ (mkO raw k).size ≤ 800 * k
  | 0 => ⟨Nat.le_refl _, Nat.le_refl _⟩
  | k + 1 => by
    obtain ⟨h1, h2⟩ := mk_size raw k
    have h3 := hd_size k (rw_ raw k)
    have h4 := pr_size k (rw_ raw k)
    unfold mkP mkO
    simp only [ByteArray.size_append]
    omega
theorem mkN_len (raw : List Int) : ∀ k, (mkN raw k).length = k
  | 0 => rfl
  | k + 1 => by unfold mkN; rw [List.length_append, mkN_len raw k]; rfl
/-- What made keeps beside its texts. -/
structure MkS (w wr : World) (pav tsv : Value) (k : Nat) (ns : List ByteArray) (cs : List Value) : Prop where
  pa : wr.ownsRow w.heap.size 9 1 pav k (ns.map .string)
  ts : wr.ownsRow w.heap.size 57 5 tsv k cs
  b : Below w.heap.size w wr
theorem MkS.below {w wr w' : World} {pav tsv : Value} {k : Nat} {ns : List ByteArray} {cs : List Value} (h : MkS w wr pav tsv k ns cs) (hb : Below wr.heap.size wr w') : MkS w w' pav tsv k ns cs :=
  ⟨owns_below h.pa hb, ownsS_frame h.ts (fun j _ j2 _ => hb.block j j2), h.b.trans (hb.mono h.b.size)⟩
theorem rowsS_apart {w : World} {B B' s s' : Nat} {e e' : TypeId} {v v' : Value} {n n' : Nat} {xs xs' : List Value} (h : w.ownsRow B e s v n xs) (h' : w.ownsRow B' e' s' v' n' xs') (he : e ≠ e') : v.ownBlock = none ∨ v.ownBlock ≠ v'.ownBlock := by
  rcases h.2 with ⟨rfl, _⟩ | ⟨g, cap, cur, rfl, _, hg, _⟩
  · exact .inl rfl
  · right
    rcases h'.2 with ⟨rfl, _⟩ | ⟨g', cap', cur', rfl, _, hg', _⟩
    · simp [Value.ownBlock]
    · intro eq
      simp only [Value.ownBlock, Option.some.injEq] at eq
      subst eq
      rw [hg] at hg'
      simp only [Option.some.injEq, Obj.cells.injEq] at hg'
      exact he hg'.2.1
theorem MkS.grownP {w wr w' : World} {pav tsv : Value} {k : Nat} {ns : List ByteArray} {cs : List Value} (h : MkS w wr pav tsv k ns cs) (hg : wr.grownBy w' pav.ownBlock) : w'.ownsRow w.heap.size 57 5 tsv k cs ∧ Below w.heap.size w w' :=
  ⟨h.ts.kept hg (rowsS_apart h.ts h.pa (by decide)), h.b.grown hg h.b.size (fun j hj => (h.pa.lt j hj).1)⟩
theorem grown_two {w w6 w7 : World} {pav tsv : Value} {m k : Nat} {xs cs : List Value} {o : Obj} (hp : w6.ownsRow w.heap.size 9 1 pav m xs) (ht : w6.ownsRow w.heap.size 57 5 tsv k cs) (hb : Below w.heap.size w w6) (hg : (w6.alloc o).grownBy w7 tsv.ownBlock) : w7.ownsRow w.heap.size 9 1 pav m xs ∧ Below w.heap.size w w7 :=
  ⟨(hp.alloc o).kept hg (rowsS_apart (hp.alloc o) (ht.alloc o) (by decide)), (hb.alloc hb.size o).grown hg (by have := hb.size; simp; omega) (fun j hj => (ht.lt j hj).1)⟩
theorem five_new (w : World) (v0 v1 v2 v3 v4 : Value) (T : TypeId) : ∀ j u, [v0, v1, v2, v3, v4][j]? = some u → (w.alloc (.cells #[v0, v1, v2, v3, v4] T)).cell? ((⟨w.heap.size, 0, none⟩ : Addr).add j) = some u := by
  intro j u hj
  match j, hj with
  | 0, hj => simp at hj; subst hj; simp [Addr.add]
  | 1, hj => simp at hj; subst hj; simp [Addr.add]
  | 2, hj => simp at hj; subst hj; simp [Addr.add]
  | 3, hj => simp at hj; subst hj; simp [Addr.add]
  | 4, hj => simp at hj; subst hj; simp [Addr.add]
  | j + 5, hj => simp at hj
set_option maxRecDepth 100000 in
set_option maxHeartbeats 4000000 in
theorem made_any (HO : OneC) (raw : List Int) (rv : Value) (w : World) (hs : SubRow w rv raw.length (raw.map (Value.int .i64 ·))) (hr : ∀ x ∈ raw, -9223372036854775808 ≤ x ∧ x ≤ 9223372036854775807) (hlen : raw.length ≤ 9223372036854775807) (K : Nat) (hK : K = min raw.length 20) :
    Calls Tryz.prog 12 #[rv] w fun e w' => ∃ pav tsv, e = .returned (.tuple #[.string (mkP raw K), .string (mkO raw K), pav, tsv]) ∧ w'.ownsRow w.heap.size 9 1 pav (mkN raw K).length ((mkN raw K).map .string) ∧ Below w.heap.size w w' := by
  obtain ⟨i1, hi1, hz10, hz11, hz12⟩ := info_parts info_string
  obtain ⟨i5, hi5, hz50, hz51, hz52⟩ := info_parts info_thing
  obtain ⟨ad, cap, rfl⟩ := hs.form
  have HS := hid hs
  have HR := hid hr
  clear hs hr
  have HTB := hid (fun k (h : k ≤ 20) => (read_made raw k h).1.2.form)
  have HSZ := hid (mk_size raw)
  go_enter Tryz.func12, Tryz.ntmps12
  go_wp2_with fail
  go_loopw [6, 7, 8, 9, 10, 11] (fun pv ov tv pav tsv iv wr => ∃ k : Nat, k ≤ K ∧ iv = .int .i64 k ∧ pv = .string (mkP raw k) ∧ ov = .string (mkO raw k) ∧ tv = .string (tabT (tabAt raw k)) ∧ ∃ cs : List Value, Hid (wr.ownsRow w.heap.size 9 1 pav k ((mkN raw k).map .string)) ∧ Hid (wr.ownsRow w.heap.size 57 5 tsv k cs) ∧ Hid (Below w.heap.size w wr)) (fun _ _ _ _ _ iv _ => K - (intOf iv).toNat)
  case atStart => exact ⟨0, Nat.zero_le _, rfl, rfl, rfl, rfl, [], World.ownsRow_nil _ _ _ _, World.ownsRow_nil _ _ _ _, Below.refl _ _⟩
  case round =>
    obtain ⟨k, hkK, rfl, rfl, rfl, rfl, cs, hpa, hts, hbw⟩ := hrel
    obtain ⟨ap, cp, ep⟩ := owns_form hpa.out
    subst ep
    obtain ⟨at_, ct, et⟩ := ownsS_form hts.out
    subst et
    by_cases hkl : k < K
    · have hk20 : k < 20 := by omega
      have hkr : k < raw.length := by omega
      obtain ⟨g, off, hg, hg2, hgc⟩ := HS.out.cell k (.int .i64 raw[k]) (by rw [List.getElem?_map, List.getElem?_eq_getElem hkr]; rfl)
      subst hg
      have hgr := (hbw.out.cell (p := ⟨g, off + k, none⟩) hg2).trans hgc
      have hx := HR.out raw[k] (List.getElem_mem hkr)
      have HRW : Hid (rw_ raw k = raw[k]) := by unfold Hid rw_; rw [List.getD_eq_getElem?_getD, List.getElem?_eq_getElem hkr]; rfl
      generalize raw[k] = x at *
      have t1 : decide ((k : Int) < raw.length) = true := by simp; omega
      have t2 : decide ((k : Int) < 20) = true := by simp; omega
      clear hgc
      have HM := hid (MkS.mk hpa.out hts.out hbw.out)
      have hzw := hbw.out.size
      have r1000 := tdiv_rng x 1000 (by decide) hx.1 hx.2
      have r11 := tdiv_rng x 11 (by decide) hx.1 hx.2
      have r77 := tdiv_rng x 77 (by decide) hx.1 hx.2
      have HPH : Hid (∀ w, Calls Tryz.prog 6 #[.int .i64 (x.tdiv 1000), .int .i64 6] w fun e w' => e = .returned (.int .i64 (hk x)) ∧ w' = w) := fun w => pick_any _ 6 w r1000.1 r1000.2 (by decide) (by decide)
      have HPR : Hid (∀ w, Calls Tryz.prog 6 #[.int .i64 (x.tdiv 77), .int .i64 4] w fun e w' => e = .returned (.int .i64 (pk (x.tdiv 77) 4)) ∧ w' = w) := fun w => pick_any _ 4 w r77.1 r77.2 (by decide) (by decide)
      have HD : Hid (∀ w : World, Calls Tryz.prog 7 #[.int .i64 k] w fun e w' => e = .returned (.string (dgtB k)) ∧ Below w.heap.size w w') := digits_any k (by omega) (by omega)
      have HNm : Hid (∀ w : World, Calls Tryz.prog 21 #[.int .i64 k, .int .i64 x] w fun e w' => e = .returned (.string (nmB k x)) ∧ Below w.heap.size w w') := fun w => kname_any k x w (by omega) hx.1 hx.2
      have HTh := hid (fun w => thing_any HO (x.tdiv 11) w r11.1 r11.2)
      have hh6 : hk x < 6 := pk_lt _ 6 (by decide)
      have hp4 := pk_lt (x.tdiv 77) 4 (by decide)
      have zP := HSZ.out k
      have zD := dig_size k
      have zN := nm_size k x
      have zT := th_size (x.tdiv 11)
      have FP : Hid (mkP raw (k + 1) = mkP raw k ++ (hdP k x ++ prP k x) ∧ mkO raw (k + 1) = mkO raw k ++ (hdO k x ++ prO k x)) := by unfold Hid; rw [← HRW.out]; exact ⟨rfl, rfl⟩
      have FT : Hid (tabAt raw (k + 1) = tabN k x (tabAt raw k)) := by unfold Hid; rw [← HRW.out]; rfl
      have FN : Hid (mkN raw (k + 1) = mkN raw k ++ [jn (tabAt raw (k + 1) ++ [nmB k x])]) := by unfold Hid; rw [← HRW.out]; rfl
      have zt : (tabT (tabAt raw k)).size ≤ 40 := by
        rcases HTB.out k (by omega) with e | ⟨m, hm, e⟩
        · rw [e]; decide
        · rw [e]
          have := (tb_ok m hm).le
          show (tbB m ++ ⟨#[46]⟩).size ≤ 40
          rw [ByteArray.size_append]
          show _ + 1 ≤ 40
          omega
      clear hpa hts hbw HRW
      generalize mkP raw k = P at *
      generalize mkO raw k = O at *
      obtain ⟨TT, hTT⟩ : ∃ TT, TT = tabT (tabAt raw k) := ⟨_, rfl⟩
      have HTT := hid hTT.symm
      rw [← hTT] at zt ⊢
      clear hTT
      go_wp2_with fail
      refine (HPH.out _).mono ?_
      rintro e w1 ⟨rfl, hw1⟩
      rw [hw1]
      clear hw1 w1
      rcases (by omega : hk x = 0 ∨ hk x = 1 ∨ hk x = 2 ∨ 3 ≤ hk x) with hh | hh | hh | hh
      case' inl =>
        have FH : Hid (hdP k x = ⟨#[91, 116]⟩ ++ dgtB k ++ ⟨#[93, 10]⟩ ∧ hdO k x = ⟨#[9, 91, 32, 116]⟩ ++ dgtB k ++ ⟨#[9, 93, 32, 10]⟩ ∧ tabT (tabN k x (tabAt raw k)) = ⟨#[116]⟩ ++ dgtB k ++ ⟨#[46]⟩) := by
          refine ⟨by unfold hdP; rw [if_pos hh], by unfold hdO; rw [if_pos hh], by unfold tabN; rw [if_pos hh]; rfl⟩
        have th0 : ((hk x : Int) == 0) = true := by simp; omega
        clear hh
        generalize hk x = h at *
        go_wp2_with fail
        refine (HD.out _).mono ?_
        rintro e w2 ⟨rfl, hB⟩
        have HM2 := hid (HM.out.below hB)
        clear hB HM
        go_wp2_with fail
        refine (HD.out _).mono ?_
        rintro e w3 ⟨rfl, hB⟩
        have HM3 := hid (HM2.out.below hB)
        clear hB HM2
        go_wp2_with fail
        refine (HD.out _).mono ?_
        rintro e w9 ⟨rfl, hB⟩
        have HM9 := hid (HM3.out.below hB)
        clear hB HM3
        go_wp2_with fail
        obtain ⟨P1, hP1⟩ : ∃ P1 : ByteArray, P1 = P ++ ⟨#[91, 116]⟩ ++ dgtB k ++ ⟨#[93, 10]⟩ := ⟨_, rfl⟩
        obtain ⟨O1, hO1⟩ : ∃ O1 : ByteArray, O1 = O ++ ⟨#[9, 91, 32, 116]⟩ ++ dgtB k ++ ⟨#[9, 93, 32, 10]⟩ := ⟨_, rfl⟩
        obtain ⟨T1, hT1⟩ : ∃ T1 : ByteArray, T1 = (⟨#[116]⟩ ++ dgtB k ++ ⟨#[46]⟩ : ByteArray) := ⟨_, rfl⟩
        have FP1 : Hid (mkP raw (k + 1) = P1 ++ prP k x ∧ mkO raw (k + 1) = O1 ++ prO k x ∧ tabT (tabAt raw (k + 1)) = T1) := by
          unfold Hid
          rw [FP.out.1, FP.out.2, FT.out, FH.out.1, FH.out.2.1, FH.out.2.2, hP1, hO1, hT1]
          simp only [ByteArray.append_assoc, nil_app]
          exact ⟨trivial, trivial, trivial⟩
        have zP1 : P1.size ≤ 20000 := by
          rw [hP1]
          try simp only [ByteArray.size_append, l1, l2, l3, l4, l5, l6, l7, l8, l9, l10, l11]
          omega
        have zO1 : O1.size ≤ 20000 := by
          rw [hO1]
          try simp only [ByteArray.size_append, l1, l2, l3, l4, l5, l6, l7, l8, l9, l10, l11]
          omega
        have zT1 : T1.size ≤ 100 := by
          rw [hT1]
          try simp only [ByteArray.size_append, l1, l2, l3, l4, l5, l6, l7, l8, l9, l10, l11]
          omega
        rw [← hP1, ← hO1, ← hT1]
        clear hP1 hO1 hT1 FP FT FH
      case' inr.inl =>
        have FH : Hid (hdP k x = ⟨#[10]⟩ ∧ hdO k x = ⟨#[32, 9, 10, 10]⟩ ∧ tabT (tabN k x (tabAt raw k)) = TT) := by
          have n0 : hk x ≠ 0 := by omega
          refine ⟨by unfold hdP; rw [if_neg n0, if_pos hh], by unfold hdO; rw [if_neg n0, if_pos hh], by unfold tabN; rw [if_neg n0]; exact HTT.out⟩
        have th0 : ((hk x : Int) == 0) = false := by simp; omega
        have th1 : ((hk x : Int) == 1) = true := by simp; omega
        clear hh
        generalize hk x = h at *
        go_wp2_with fail
        obtain ⟨w9, hw9⟩ : ∃ w9, w9 = wr := ⟨wr, rfl⟩
        have HM9 : Hid (MkS w w9 (.slice ap k cp) (.slice at_ k ct) k (mkN raw k) cs) := by rw [hw9]; exact HM
        rw [← hw9]
        clear HM
        obtain ⟨P1, hP1⟩ : ∃ P1 : ByteArray, P1 = P ++ ⟨#[10]⟩ := ⟨_, rfl⟩
        obtain ⟨O1, hO1⟩ : ∃ O1 : ByteArray, O1 = O ++ ⟨#[32, 9, 10, 10]⟩ := ⟨_, rfl⟩
        obtain ⟨T1, hT1⟩ : ∃ T1 : ByteArray, T1 = TT := ⟨_, rfl⟩
        have FP1 : Hid (mkP raw (k + 1) = P1 ++ prP k x ∧ mkO raw (k + 1) = O1 ++ prO k x ∧ tabT (tabAt raw (k + 1)) = T1) := by
          unfold Hid
          rw [FP.out.1, FP.out.2, FT.out, FH.out.1, FH.out.2.1, FH.out.2.2, hP1, hO1, hT1]
          simp only [ByteArray.append_assoc, nil_app]
          exact ⟨trivial, trivial, trivial⟩
        have zP1 : P1.size ≤ 20000 := by
          rw [hP1]
          try simp only [ByteArray.size_append, l1, l2, l3, l4, l5, l6, l7, l8, l9, l10, l11]
          omega
        have zO1 : O1.size ≤ 20000 := by
          rw [hO1]
          try simp only [ByteArray.size_append, l1, l2, l3, l4, l5, l6, l7, l8, l9, l10, l11]
          omega
        have zT1 : T1.size ≤ 100 := by
          rw [hT1]
          try simp only [ByteArray.size_append, l1, l2, l3, l4, l5, l6, l7, l8, l9, l10, l11]
          omega
        rw [← hP1, ← hO1, ← hT1]
        clear hP1 hO1 hT1 FP FT FH
      case' inr.inr.inl =>
        have FH : Hid (hdP k x = ⟨#[35, 32, 114]⟩ ++ dgtB k ++ ⟨#[10]⟩ ∧ hdO k x = ⟨#[32, 32, 35, 114]⟩ ++ dgtB k ++ ⟨#[32, 9, 10]⟩ ∧ tabT (tabN k x (tabAt raw k)) = TT) := by
          have n0 : hk x ≠ 0 := by omega
          have n1 : hk x ≠ 1 := by omega
          refine ⟨by unfold hdP; rw [if_neg n0, if_neg n1, if_pos hh], by unfold hdO; rw [if_neg n0, if_neg n1, if_pos hh], by unfold tabN; rw [if_neg n0]; exact HTT.out⟩
        have th0 : ((hk x : Int) == 0) = false := by simp; omega
        have th1 : ((hk x : Int) == 1) = false := by simp; omega
        have th2 : ((hk x : Int) == 2) = true := by simp; omega
        clear hh
        generalize hk x = h at *
        go_wp2_with fail
        refine (HD.out _).mono ?_
        rintro e w2 ⟨rfl, hB⟩
        have HM2 := hid (HM.out.below hB)
        clear hB HM
        go_wp2_with fail
        refine (HD.out _).mono ?_
        rintro e w9 ⟨rfl, hB⟩
        have HM9 := hid (HM2.out.below hB)
        clear hB HM2
        go_wp2_with fail
        obtain ⟨P1, hP1⟩ : ∃ P1 : ByteArray, P1 = P ++ ⟨#[35, 32, 114]⟩ ++ dgtB k ++ ⟨#[10]⟩ := ⟨_, rfl⟩
        obtain ⟨O1, hO1⟩ : ∃ O1 : ByteArray, O1 = O ++ ⟨#[32, 32, 35, 114]⟩ ++ dgtB k ++ ⟨#[32, 9, 10]⟩ := ⟨_, rfl⟩
        obtain ⟨T1, hT1⟩ : ∃ T1 : ByteArray, T1 = TT := ⟨_, rfl⟩
        have FP1 : Hid (mkP raw (k + 1) = P1 ++ prP k x ∧ mkO raw (k + 1) = O1 ++ prO k x ∧ tabT (tabAt raw (k + 1)) = T1) := by
          unfold Hid
          rw [FP.out.1, FP.out.2, FT.out, FH.out.1, FH.out.2.1, FH.out.2.2, hP1, hO1, hT1]
          simp only [ByteArray.append_assoc, nil_app]
          exact ⟨trivial, trivial, trivial⟩
        have zP1 : P1.size ≤ 20000 := by
          rw [hP1]
          try simp only [ByteArray.size_append, l1, l2, l3, l4, l5, l6, l7, l8, l9, l10, l11]
          omega
        have zO1 : O1.size ≤ 20000 := by
          rw [hO1]
          try simp only [ByteArray.size_append, l1, l2, l3, l4, l5, l6, l7, l8, l9, l10, l11]
          omega
        have zT1 : T1.size ≤ 100 := by
          rw [hT1]
          try simp only [ByteArray.size_append, l1, l2, l3, l4, l5, l6, l7, l8, l9, l10, l11]
          omega
        rw [← hP1, ← hO1, ← hT1]
        clear hP1 hO1 hT1 FP FT FH
      case' inr.inr.inr =>
        have FH : Hid (hdP k x = ⟨#[]⟩ ∧ hdO k x = ⟨#[]⟩ ∧ tabT (tabN k x (tabAt raw k)) = TT) := by
          have n0 : hk x ≠ 0 := by omega
          have n1 : hk x ≠ 1 := by omega
          have n2 : hk x ≠ 2 := by omega
          refine ⟨by unfold hdP; rw [if_neg n0, if_neg n1, if_neg n2], by unfold hdO; rw [if_neg n0, if_neg n1, if_neg n2], by unfold tabN; rw [if_neg n0]; exact HTT.out⟩
        have th0 : ((hk x : Int) == 0) = false := by simp; omega
        have th1 : ((hk x : Int) == 1) = false := by simp; omega
        have th2 : ((hk x : Int) == 2) = false := by simp; omega
        clear hh
        generalize hk x = h at *
        go_wp2_with fail
        obtain ⟨w9, hw9⟩ : ∃ w9, w9 = wr := ⟨wr, rfl⟩
        have HM9 : Hid (MkS w w9 (.slice ap k cp) (.slice at_ k ct) k (mkN raw k) cs) := by rw [hw9]; exact HM
        rw [← hw9]
        clear HM
        obtain ⟨P1, hP1⟩ : ∃ P1 : ByteArray, P1 = P := ⟨_, rfl⟩
        obtain ⟨O1, hO1⟩ : ∃ O1 : ByteArray, O1 = O := ⟨_, rfl⟩
        obtain ⟨T1, hT1⟩ : ∃ T1 : ByteArray, T1 = TT := ⟨_, rfl⟩
        have FP1 : Hid (mkP raw (k + 1) = P1 ++ prP k x ∧ mkO raw (k + 1) = O1 ++ prO k x ∧ tabT (tabAt raw (k + 1)) = T1) := by
          unfold Hid
          rw [FP.out.1, FP.out.2, FT.out, FH.out.1, FH.out.2.1, FH.out.2.2, hP1, hO1, hT1]
          simp only [ByteArray.append_assoc, nil_app]
          exact ⟨trivial, trivial, trivial⟩
        have zP1 : P1.size ≤ 20000 := by
          rw [hP1]
          try simp only [ByteArray.size_append, l1, l2, l3, l4, l5, l6, l7, l8, l9, l10, l11]
          omega
        have zO1 : O1.size ≤ 20000 := by
          rw [hO1]
          try simp only [ByteArray.size_append, l1, l2, l3, l4, l5, l6, l7, l8, l9, l10, l11]
          omega
        have zT1 : T1.size ≤ 100 := by
          rw [hT1]
          try simp only [ByteArray.size_append, l1, l2, l3, l4, l5, l6, l7, l8, l9, l10, l11]
          omega
        rw [← hP1, ← hO1, ← hT1]
        clear hP1 hO1 hT1 FP FT FH
      all_goals (
        refine (HNm.out _).mono ?_
        rintro e w10 ⟨rfl, hB⟩
        have HM10 := hid (HM9.out.below hB)
        clear hB HM9
        go_wp2_with fail
        refine (HTh.out _).mono ?_
        rintro e w11 ⟨kd, an, ln, cn, av, ls, cs5, rfl, hB⟩
        have HM11 := hid (HM10.out.below hB)
        clear hB HM10
        go_wp2_with fail)
      all_goals (
        have HM12 := hid (HM11.out.below ((Below.refl _ _).alloc (Nat.le_refl _) (.cells #[.int .u8 kd, .slice an ln cn, .slice av ls cs5, .string (thP (x.tdiv 11)), .string (thO (x.tdiv 11))] 57)))
        have HT12 := hid (TB.new w11 (.int .u8 kd) (.slice an ln cn) (.slice av ls cs5) (.string (thP (x.tdiv 11))) (.string (thO (x.tdiv 11))))
        have HQ : Hid (∀ k', (Value.slice ap k cp).ownBlock = some k' → k' = w11.heap.size → False) := fun k' h1 h2 => by have := (HM11.out.pa.lt k' h1).2; omega
        have HRK : Hid (rk x = decide (pk (x.tdiv 77) 4 = 0)) := rfl
        clear HM11
        generalize (w11.alloc (.cells #[.int .u8 kd, .slice an ln cn, .slice av ls cs5, .string (thP (x.tdiv 11)), .string (thO (x.tdiv 11))] 57)) = W12 at *
        generalize w11.heap.size = q at *
        refine (HPR.out _).mono ?_
        rintro e w12 ⟨rfl, hw12⟩
        rw [hw12]
        clear hw12 w12
        generalize pk (x.tdiv 77) 4 = pr at *
        by_cases hp : pr = 0
        · have tp : ((pr : Int) == 0) = true := by simp; omega
          have FR : Hid (prP k x = nmB k x ++ ⟨#[32, 61, 32]⟩ ++ thP (x.tdiv 11) ++ (⟨#[32, 35, 32, 115]⟩ ++ dgtB k) ++ ⟨#[10]⟩ ∧ prO k x = ⟨#[9, 32]⟩ ++ nmB k x ++ ⟨#[61]⟩ ++ thO (x.tdiv 11) ++ (⟨#[35, 115]⟩ ++ dgtB k ++ ⟨#[32, 32]⟩) ++ ⟨#[32, 10]⟩) := by
            have e : rk x = true := by rw [HRK.out]; simp [hp]
            unfold Hid prP prO
            rw [if_pos e, if_pos e]
            exact ⟨rfl, rfl⟩
          clear hp HRK
          go_wp2_with fail
          refine (HD.out _).mono ?_
          rintro e w13 ⟨rfl, hB⟩
          have HM13 := hid (HM12.out.below hB)
          have HT13 := hid (HT12.out.below hB HT12.out.lt)
          clear hB HM12 HT12
          go_wp2_with fail
          refine (HD.out _).mono ?_
          rintro e w14 ⟨rfl, hB⟩
          have HM14 := hid (HM13.out.below hB)
          have HT14 := hid (HT13.out.below hB HT13.out.lt)
          clear hB HM13 HT13
          have HZ14 := hid HM14.out.b.size
          have hzz := HZ14.out
          obtain ⟨c0, c1, c2, c3, c4, cF, cl⟩ := HT14.out
          go_wp2_with (at_builtin; refine wpList_append_own_at _ rfl _ _ 25 rfl w.heap.size 9 i1 (.string ⟨#[]⟩) 1 16 Tryz.underlying25 hi1 hz10 hz11 hz12 rfl (by decide) _ _ _ rfl (HM14.out.pa.alloc _) ⟨w14.heap.size, 0, none⟩ 1 1 [.string (T1 ++ nmB k x)] rfl rfl (cell_one_new _ _ _) (by intro u hu; simp at hu; subst hu; rfl) (by unfold maxLen; omega) (by omega) (by simp; omega) ?_; intro v6 w6 hown6 hgrow6 hnil6 hat6; refine Hid.out ?_)
          have HM15 := hid (HM14.out.below ((Below.refl _ _).alloc (Nat.le_refl _) (.cells #[.string (T1 ++ nmB k x)] 9)))
          have HP6 := hid (HM15.out.grownP hgrow6)
          have hT6 := (HT14.out.alloc (.cells #[.string (T1 ++ nmB k x)] 9)).grown hgrow6 (fun e => HQ.out q e rfl)
          have HPA6 := hid hown6
          have hz6 : w.heap.size ≤ w6.heap.size := HP6.out.2.size
          obtain ⟨a6, c6, e6⟩ := owns_form hown6
          subst e6
          clear hown6 hgrow6 hnil6 hat6 HM14 HM15 HT14 c0 c1 c2 c3 c4 cF cl
          obtain ⟨c0, c1, c2, c3, c4, cF, cl⟩ := hT6
          unfold Hid
          go_wp2_with (at_builtin; refine wpList_append_own_at _ rfl _ _ 37 rfl w.heap.size 57 i5 (.agg #[.int .u8 0, .slice none 0 0, .slice none 0 0, .string ⟨#[]⟩, .string ⟨#[]⟩]) 5 88 Tryz.underlying37 hi5 hz50 hz51 hz52 rfl (by decide) _ _ _ rfl (HP6.out.1.alloc _) ⟨w6.heap.size, 0, none⟩ 1 1 [.int .u8 kd, .slice an ln cn, .slice av ls cs5, .string (thP (x.tdiv 11)), .string (thO (x.tdiv 11))] rfl rfl (five_new _ _ _ _ _ _ _) (by intro u hu; simp only [List.mem_cons, List.not_mem_nil, or_false] at hu; rcases hu with rfl | rfl | rfl | rfl | rfl <;> rfl) (by unfold maxLen; omega) (by omega) (by simp; omega) ?_; intro v7 w7 hown7 hgrow7 hnil7 hat7; refine Hid.out ?_)
          have hg7 : (w6.alloc (.cells #[.int .u8 kd, .slice an ln cn, .slice av ls cs5, .string (thP (x.tdiv 11)), .string (thO (x.tdiv 11))] 57)).grownBy w7 (Value.slice at_ k ct).ownBlock := hgrow7
          have HPA7 := hid (grown_two HPA6.out HP6.out.1 HP6.out.2 hg7).1
          have HB7 := hid (grown_two HPA6.out HP6.out.1 HP6.out.2 hg7).2
          clear hg7
          have HTS7 := hid hown7
          obtain ⟨a7, c7, e7⟩ := ownsS_form hown7
          subst e7
          have FE : Hid (mkP raw (k + 1) = P1 ++ nmB k x ++ ⟨#[32, 61, 32]⟩ ++ thP (x.tdiv 11) ++ ⟨#[32, 35, 32, 115]⟩ ++ dgtB k ++ ⟨#[10]⟩ ∧ mkO raw (k + 1) = O1 ++ ⟨#[9, 32]⟩ ++ nmB k x ++ ⟨#[61]⟩ ++ thO (x.tdiv 11) ++ ⟨#[35, 115]⟩ ++ dgtB k ++ ⟨#[32, 32]⟩ ++ ⟨#[32, 10]⟩) := by
            unfold Hid
            rw [FP1.out.1, FP1.out.2.1, FR.out.1, FR.out.2]
            simp only [ByteArray.append_assoc, nil_app]
            exact ⟨trivial, trivial⟩
          have FNE : Hid ((mkN raw (k + 1)).map Value.string = (mkN raw k).map Value.string ++ [.string (T1 ++ nmB k x)]) := by
            unfold Hid
            rw [FN.out, List.map_append, ← FP1.out.2.2, tabT_jn (HTB.out (k + 1) (by omega))]
            rfl
          clear hown7 hgrow7 hnil7 hat7 HP6 HPA6 c0 c1 c2 c3 c4 cF cl FN FR
          unfold Hid
          go_wp2_with fail
          refine ⟨⟨k + 1, by omega, by go_num, by rw [FE.out.1], by rw [FE.out.2], by rw [FP1.out.2.2], _, by rw [FNE.out]; exact HPA7, HTS7, HB7⟩, by simp [intOf]; omega⟩
        · have tp : ((pr : Int) == 0) = false := by simp; omega
          have FR : Hid (prP k x = nmB k x ++ ⟨#[32, 61, 32]⟩ ++ thP (x.tdiv 11) ++ ⟨#[]⟩ ++ ⟨#[10]⟩ ∧ prO k x = ⟨#[9, 32]⟩ ++ nmB k x ++ ⟨#[61]⟩ ++ thO (x.tdiv 11) ++ ⟨#[]⟩ ++ ⟨#[32, 10]⟩) := by
            have e : ¬ rk x = true := by rw [HRK.out]; simp [hp]
            unfold Hid prP prO
            rw [if_neg e, if_neg e]
            exact ⟨rfl, rfl⟩
          obtain ⟨w14, hw14⟩ : ∃ w14, w14 = W12 := ⟨W12, rfl⟩
          have HM14 : Hid (MkS w w14 (.slice ap k cp) (.slice at_ k ct) k (mkN raw k) cs) := by rw [hw14]; exact HM12
          have HT14 : Hid (TB w14 q (.int .u8 kd) (.slice an ln cn) (.slice av ls cs5) (.string (thP (x.tdiv 11))) (.string (thO (x.tdiv 11)))) := by rw [hw14]; exact HT12
          rw [← hw14]
          clear hp HRK HM12 HT12 hw14
          have HZ14 := hid HM14.out.b.size
          have hzz := HZ14.out
          obtain ⟨c0, c1, c2, c3, c4, cF, cl⟩ := HT14.out
          go_wp2_with (at_builtin; refine wpList_append_own_at _ rfl _ _ 25 rfl w.heap.size 9 i1 (.string ⟨#[]⟩) 1 16 Tryz.underlying25 hi1 hz10 hz11 hz12 rfl (by decide) _ _ _ rfl (HM14.out.pa.alloc _) ⟨w14.heap.size, 0, none⟩ 1 1 [.string (T1 ++ nmB k x)] rfl rfl (cell_one_new _ _ _) (by intro u hu; simp at hu; subst hu; rfl) (by unfold maxLen; omega) (by omega) (by simp; omega) ?_; intro v6 w6 hown6 hgrow6 hnil6 hat6; refine Hid.out ?_)
          have HM15 := hid (HM14.out.below ((Below.refl _ _).alloc (Nat.le_refl _) (.cells #[.string (T1 ++ nmB k x)] 9)))
          have HP6 := hid (HM15.out.grownP hgrow6)
          have hT6 := (HT14.out.alloc (.cells #[.string (T1 ++ nmB k x)] 9)).grown hgrow6 (fun e => HQ.out q e rfl)
          have HPA6 := hid hown6
          have hz6 : w.heap.size ≤ w6.heap.size := HP6.out.2.size
          obtain ⟨a6, c6, e6⟩ := owns_form hown6
          subst e6
          clear hown6 hgrow6 hnil6 hat6 HM14 HM15 HT14 c0 c1 c2 c3 c4 cF cl
          obtain ⟨c0, c1, c2, c3, c4, cF, cl⟩ := hT6
          unfold Hid
          go_wp2_with (at_builtin; refine wpList_append_own_at _ rfl _ _ 37 rfl w.heap.size 57 i5 (.agg #[.int .u8 0, .slice none 0 0, .slice none 0 0, .string ⟨#[]⟩, .string ⟨#[]⟩]) 5 88 Tryz.underlying37 hi5 hz50 hz51 hz52 rfl (by decide) _ _ _ rfl (HP6.out.1.alloc _) ⟨w6.heap.size, 0, none⟩ 1 1 [.int .u8 kd, .slice an ln cn, .slice av ls cs5, .string (thP (x.tdiv 11)), .string (thO (x.tdiv 11))] rfl rfl (five_new _ _ _ _ _ _ _) (by intro u hu; simp only [List.mem_cons, List.not_mem_nil, or_false] at hu; rcases hu with rfl | rfl | rfl | rfl | rfl <;> rfl) (by unfold maxLen; omega) (by omega) (by simp; omega) ?_; intro v7 w7 hown7 hgrow7 hnil7 hat7; refine Hid.out ?_)
          have hg7 : (w6.alloc (.cells #[.int .u8 kd, .slice an ln cn, .slice av ls cs5, .string (thP (x.tdiv 11)), .string (thO (x.tdiv 11))] 57)).grownBy w7 (Value.slice at_ k ct).ownBlock := hgrow7
          have HPA7 := hid (grown_two HPA6.out HP6.out.1 HP6.out.2 hg7).1
          have HB7 := hid (grown_two HPA6.out HP6.out.1 HP6.out.2 hg7).2
          clear hg7
          have HTS7 := hid hown7
          obtain ⟨a7, c7, e7⟩ := ownsS_form hown7
          subst e7
          have FE : Hid (mkP raw (k + 1) = P1 ++ nmB k x ++ ⟨#[32, 61, 32]⟩ ++ thP (x.tdiv 11) ++ ⟨#[10]⟩ ∧ mkO raw (k + 1) = O1 ++ ⟨#[9, 32]⟩ ++ nmB k x ++ ⟨#[61]⟩ ++ thO (x.tdiv 11) ++ ⟨#[32, 10]⟩) := by
            unfold Hid
            rw [FP1.out.1, FP1.out.2.1, FR.out.1, FR.out.2]
            simp only [ByteArray.append_assoc, nil_app]
            exact ⟨trivial, trivial⟩
          have FNE : Hid ((mkN raw (k + 1)).map Value.string = (mkN raw k).map Value.string ++ [.string (T1 ++ nmB k x)]) := by
            unfold Hid
            rw [FN.out, List.map_append, ← FP1.out.2.2, tabT_jn (HTB.out (k + 1) (by omega))]
            rfl
          clear hown7 hgrow7 hnil7 hat7 HP6 HPA6 c0 c1 c2 c3 c4 cF cl FN FR
          unfold Hid
          go_wp2_with fail
          refine ⟨⟨k + 1, by omega, by go_num, by rw [FE.out.1], by rw [FE.out.2], by rw [FP1.out.2.2], _, by rw [FNE.out]; exact HPA7, HTS7, HB7⟩, by simp [intOf]; omega⟩
        )
    · have ekK : k = K := by omega
      have Fin := hid hpa.out
      have FL : Hid ((mkN raw k).length = k) := mkN_len raw k
      rcases (by omega : raw.length ≤ k ∨ (k < raw.length ∧ 20 ≤ k)) with h1 | ⟨h1, h2⟩
      · have t1 : decide ((k : Int) < raw.length) = false := by simp; omega
        subst ekK
        clear hpa hts hK
        go_wp2_with fail
        refine bodyPost_ret (v := .tuple #[.string (mkP raw k), .string (mkO raw k), .slice ap k cp, .slice at_ k ct]) (by simp [results, Tryz.results12]) rfl ?_
        exact ⟨_, _, rfl, by rw [FL.out]; exact Fin.out, hbw.out⟩
      · have t1 : decide ((k : Int) < raw.length) = true := by simp; omega
        have t2 : decide ((k : Int) < 20) = false := by simp; omega
        subst ekK
        clear hpa hts hK
        go_wp2_with fail
        refine bodyPost_ret (v := .tuple #[.string (mkP raw k), .string (mkO raw k), .slice ap k cp, .slice at_ k ct]) (by simp [results, Tryz.results12]) rfl ?_
        exact ⟨_, _, rfl, by rw [FL.out]; exact Fin.out, hbw.out⟩
end Go.Proofs.YtdebjhdafnpfkabGreatDoor
