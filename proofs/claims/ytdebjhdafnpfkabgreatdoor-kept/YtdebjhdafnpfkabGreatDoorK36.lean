import Derived.Test.YtdebjhdafnpfkabGreatDoorK30
import Derived.Test.YtdebjhdafnpfkabGreatDoorK31
import Derived.Test.YtdebjhdafnpfkabGreatDoorK34
import Derived.Test.YtdebjhdafnpfkabGreatDoorK35
import Derived.Test.YtdebjhdafnpfkabGreatDoorK21
import Derived.Test.YtdebjhdafnpfkabGreatDoorK29
namespace Go.Proofs.YtdebjhdafnpfkabGreatDoor
open Go.ChangeShapes Go.WideShapes Go.ChangeAt Go.RowKit
set_option linter.unusedVariables false
set_option linter.unusedSimpArgs false
theorem m_flat_bool (v : Value) (w : World) : (Go.method 361 196 v "Flat").run Tryz.prog w = .ok (180, v) w := by kernel_rfl
theorem ahead_bool (v : Value) (w : World) : (nilAhead 361 196 v "Flat").run Tryz.prog w = .ok (some false) w := by kernel_rfl
theorem enters_bool (args : Array Value) (w : World) : (callFunc 180 args).run Tryz.prog w = .ok (.enter 180 args) w := (enters_of Tryz.func180 (by kernel_rfl) rfl) args w
theorem asl_bool (v : Value) (w : World) : (Instr.typeAssert (.iface 196 v) 66 164 true).run Tryz.prog w = .ok (.tuple #[.slice none 0 0, .bool false]) w := by kernel_rfl
theorem bool_flat (b : Bool) (w : World) : Calls Tryz.prog 180 #[.bool b] w fun e w' => e = .returned (.string (if b = true then trueS else falseS)) ∧ Below w.heap.size w w' := by
  cases b
  · go_enter Tryz.func180, Tryz.ntmps180
    go_wp2_with fail
    refine (Tryz.strconv_FormatBool _ w).mono ?_
    rintro e w1 ⟨rfl, hw1⟩
    rw [hw1]
    clear hw1
    go_wp2_with fail
    go_ret
    exact ⟨rfl, Below.refl _ _⟩
  · go_enter Tryz.func180, Tryz.ntmps180
    go_wp2_with fail
    refine (Tryz.strconv_FormatBool _ w).mono ?_
    rintro e w1 ⟨rfl, hw1⟩
    rw [hw1]
    clear hw1
    go_wp2_with fail
    go_ret
    exact ⟨rfl, Below.refl _ _⟩
set_option maxRecDepth 100000 in
set_option maxHeartbeats 1000000 in
theorem list_flat0 (ad : Option Addr) (cap : Nat) (w : World) : Calls Tryz.prog 175 #[.slice ad 0 cap] w fun e w' => e = .returned (.string (listS [])) ∧ Below w.heap.size w w' := by
  obtain ⟨i0, hi, hz0, hz1, hz2⟩ := info_parts info_string
  go_enter Tryz.func175, Tryz.ntmps175
  go_wp2_with (at_make; refine wpList_make_own _ rfl _ _ 25 rfl w.heap.size 9 i0 (.string ⟨#[]⟩) 1 Tryz.underlying25 hi hz0 hz1 .i64 .i64 _ 0 rfl rfl (by first | rfl | omega) (by rw [hz2]; omega) (by unfold maxLen; omega) (Nat.le_refl _) ?_; intro w1 hown1 hgrow1; refine Hid.out ?_)
  have HB1 := hid ((Below.refl w.heap.size w).grown hgrow1 (Nat.le_refl _) (fun k hk => by cases hk))
  clear hown1 hgrow1
  unfold Hid
  go_wp2_with fail
  go_loopw [3, 11] (fun fv i wr => fv = .slice (some ⟨w.heap.size, 0, none⟩) 0 0 ∧ i = .int .i64 0 ∧ wr = w1) (fun _ _ _ => 0)
  case atStart => exact ⟨rfl, rfl, rfl⟩
  case round =>
    obtain ⟨rfl, rfl, rfl⟩ := hrel
    go_wp2_with fail
    refine (Tryz.strings_Join_none (some ⟨w.heap.size, 0, none⟩) 0 ⟨#[44, 32]⟩ wr).mono ?_
    rintro e w2 ⟨rfl, hw2⟩
    rw [hw2]
    clear hw2
    have FL : Hid (listS [] = (⟨#[91]⟩ : ByteArray) ++ (⟨#[]⟩ : ByteArray) ++ (⟨#[93]⟩ : ByteArray)) := rfl
    go_wp2_with fail
    go_ret
    exact ⟨congrArg (fun z => Ending.returned (.string z)) FL.out.symm, HB1.out⟩
/-- The table, among what the page does not touch. -/
structure TabK (T : Nat → Nat) (b B : Nat) (w0 : World) : Prop where
  tab : TabW T w0
  lt : 4 < B
  ne : 4 ≠ b
theorem quot_size (s : ByteArray) (h : s.size ≤ 12) : (quotS s).size ≤ 100 := by
  have e : (quotS s).size = 1 + (s.data.toList.flatMap escS).length + 1 := by
    unfold quotS
    show ([34] ++ s.data.toList.flatMap escS ++ [34]).toArray.size = _
    simp
    omega
  have := esc_len s.data.toList 12 (by rw [Array.length_toList]; exact h)
  omega
theorem flat1_size {T : Nat → Nat} {x : V} (h : Sc x) : (flat1 (fnT T) x).size ≤ 100 := by
  rcases h with ⟨n, h1, h2, rfl⟩ | ⟨b, rfl⟩ | ⟨s, hs, rfl⟩
  · have := (fn_ok T n h1 h2).2.1
    show (fnT T n).size ≤ 100
    omega
  · cases b
    · show falseS.size ≤ 100; decide
    · show trueS.size ≤ 100; decide
  · exact quot_size s hs
/-- A value that is no list. -/
theorem flats_sc {T : Nat → Nat} {b B d lo hi : Nat} {w0 : World} {v : Value} {x : V} (hT : TabK T b B w0) (h : PVal d lo hi w0 v x) (hx : Sc x) : FlatsTo b B w0 v (flat1 (fnT T) x) ∧ Sclr v := by
  cases d with
  | zero => exact h.elim
  | succ d =>
    rcases hx with ⟨n, h1, h2, rfl⟩ | ⟨c, rfl⟩ | ⟨s, hs, rfl⟩
    · have e := pval_num h rfl
      subst e
      refine ⟨⟨_, _, _, rfl, m_flat_num _, ahead_num _, enters_num, fun w hk hB => ?_⟩, none, 0, false, asl_num _⟩
      exact numF_any T n h1 h2 w (fun i hi => (hk.cell (p := ⟨4, i, none⟩) hT.lt hT.ne).trans (hT.tab i hi)) (by have := hT.lt; omega)
    · rcases h with ⟨e, _⟩ | ⟨e, _⟩ | ⟨_, e⟩ | ⟨e, _⟩ | ⟨e, _⟩
      · cases e
      · cases e
      · cases c
        · rcases e with ⟨e, _⟩ | ⟨_, rfl⟩
          · cases e
          · exact ⟨⟨_, _, _, rfl, m_flat_bool _, ahead_bool _, enters_bool, fun w hk hB => bool_flat false w⟩, none, 0, false, asl_bool _⟩
        · rcases e with ⟨_, rfl⟩ | ⟨e, _⟩
          · exact ⟨⟨_, _, _, rfl, m_flat_bool _, ahead_bool _, enters_bool, fun w hk hB => bool_flat true w⟩, none, 0, false, asl_bool _⟩
          · cases e
      · cases e
      · cases e
    · have e := pval_text h rfl
      subst e
      exact ⟨⟨_, _, _, rfl, m_flat_text _, ahead_text _, enters_text, fun w hk hB => btext_any s w (by omega)⟩, none, 0, false, asl_text _⟩
theorem inter_len (l : List (List UInt8)) (h : ∀ x ∈ l, x.length ≤ 100) : (([44, 32] : List UInt8).intercalate l).length ≤ l.length * 102 := by
  unfold List.intercalate
  induction l with
  | nil => simp
  | cons a l ih =>
    have ha := h a (by simp)
    have := ih (fun x hx => h x (by simp [hx]))
    cases l with
    | nil => simp; omega
    | cons b l =>
      simp only [List.intersperse, List.flatten_cons, List.length_append, List.length_cons, List.length_nil] at this ⊢
      omega
theorem join_len (outs : List ByteArray) (h : ∀ o ∈ outs, o.size ≤ 100) (h8 : outs.length ≤ 8) : (Lib.join (outs.map (·.data.toList)) [44, 32]).length ≤ 816 := by
  have := inter_len (outs.map (·.data.toList)) (fun x hx => by
    rw [List.mem_map] at hx
    obtain ⟨o, ho, rfl⟩ := hx
    exact h o ho)
  rw [List.length_map] at this
  show (([44, 32] : List UInt8).intercalate (outs.map (·.data.toList))).length ≤ 816
  omega
theorem listS_size (outs : List ByteArray) (h : ∀ o ∈ outs, o.size ≤ 100) (h8 : outs.length ≤ 8) : (listS outs).size ≤ 1000 := by
  have := join_len outs h h8
  unfold listS
  have e1 : (⟨#[91]⟩ : ByteArray).size = 1 := rfl
  have e2 : (⟨#[93]⟩ : ByteArray).size = 1 := rfl
  have e3 : (joinS outs).size = (Lib.join (outs.map (·.data.toList)) [44, 32]).length := by
    show (([44, 32] : List UInt8).intercalate (outs.map (·.data.toList))).toArray.size = _
    simp [Lib.join]
  rw [ByteArray.size_append, ByteArray.size_append, e1, e2, e3]
  omega
theorem flatV_sc {T : Nat → Nat} {x : V} (h : Sc x) : flatV (fnT T) x = flat1 (fnT T) x := by
  unfold flatV
  rw [if_neg (by rcases h with ⟨n, _, _, rfl⟩ | ⟨b, rfl⟩ | ⟨s, _, rfl⟩ <;> simp [numV, boolV, textV])]
theorem linesC_len (ls : List ByteArray) (h : ∀ l ∈ ls, l.size ≤ 202000) (hl : ls.length ≤ 10) : (linesC ls).length ≤ 2500000 := by
  have key : ∀ ls : List ByteArray, (∀ l ∈ ls, l.size ≤ 202000) → (linesC ls).length ≤ ls.length * 202001 := by
    intro ls
    induction ls with
    | nil => intro _; simp [linesC]
    | cons a ls ih =>
      intro h
      have ha := h a (by simp)
      have := ih (fun l hl => h l (by simp [hl]))
      have e : linesC (a :: ls) = linesC [a] ++ linesC ls := linesC_app [a] ls
      rw [e, linesC_one, List.length_append, List.length_append, Lib.strCells_length]
      simp only [List.length_cons, List.length_nil]
      omega
  have := key ls h
  omega
theorem start_size (room : Nat) (t : It) (h1 : room ≤ 100) (h2 : (jn t.path).size ≤ 100) : (startS room t).size ≤ 300 := by
  unfold startS
  have e1 : eqS.size = 3 := rfl
  rw [ByteArray.size_append, ByteArray.size_append, spS_size, e1]
  omega
set_option maxHeartbeats 1000000 in
/-- How a pair of a made text is laid out. -/
theorem pair_lay {T : Nat → Nat} {b B q1 room : Nat} {w : World} {wd : Nat} {t : It} {S : Nat → Prop} (hT : TabK T b B w) (h : PEnt S w (pairV q1) t) (hS : ∀ k, S k → k < B ∧ k ≠ b) (hk : t.k = 61) (hg : GoodV t.v) (zp : (jn t.path).size ≤ 100) (zr : t.rem.size ≤ 100000) (hroom : room ≤ 100) (hB0 : B ≤ w.heap.size) :
    PairLayG b B w wd room (pLines (flatV (fnT T)) wd room) q1 t := by
  have h0 := h
  obtain ⟨q', sq, c0, c1, hF, hc⟩ := h
  rcases hc with ⟨hk2, _⟩ | ⟨hk2, e1, c2, c3, pv, lo, hi, c4, hlo, hpv⟩ | ⟨hk2, _⟩
  · omega
  · have eq1 : q' = q1 := by
      simp only [pairV, Value.iface.injEq, Value.pointer.injEq, Option.some.injEq, Addr.mk.injEq, and_true, true_and] at e1
      exact e1.symm
    subst eq1
    have hbz := behS_size (startS room t) t zr
    have hsz := start_size room t hroom zp
    rcases hg with hsc | ⟨vs, hv, h8, hvs⟩
    · obtain ⟨hfl, ad, cap, ok, hA⟩ := flats_sc hT hpv hsc
      have hpl : pLines (flatV (fnT T)) wd room t = [startS room t ++ flat1 (fnT T) t.v ++ behS (startS room t) t] := by
        unfold pLines vLines
        rw [if_pos (.inl (by rcases hsc with ⟨n, _, _, e⟩ | ⟨b, e⟩ | ⟨s, _, e⟩ <;> rw [e] <;> simp [numV, boolV, textV])), flatV_sc hsc]
      have zf := flat1_size (T := T) hsc
      obtain ⟨tt, u, fid, hpe, hrest⟩ := hfl
      have hfl' : FlatsTo b B w pv (flat1 (fnT T) t.v) := ⟨tt, u, fid, hpe, hrest⟩
      subst hpe
      refine ⟨(hS _ sq).1, (hS _ sq).2, c2, ⟨S, hS, h0⟩, ⟨tt, u, c4, fun w' cs hP hK hB hcs => ?_⟩, zp, zr, ?_⟩
      · rw [hpl, linesC_one, ← List.append_assoc]
        exact layValue_flat b B wd cs _ _ _ _ 0 ad 0 cap ok w w' hP hK hB hfl' hA (.inl rfl) (by omega) (by omega) (by omega) (by omega)
      · rw [hpl]
        refine linesC_len _ ?_ (by show 1 ≤ 10; omega)
        intro l hl
        rw [List.mem_singleton] at hl
        subst hl
        rw [ByteArray.size_append, ByteArray.size_append]
        omega
    · rw [hv] at hpv
      rcases hpv with ⟨e, _⟩ | ⟨e, _⟩ | ⟨e, _⟩ | ⟨_, lv, us, rfl, hrow, hel⟩ | ⟨e, _⟩
      · cases e
      · cases e
      · cases e
      · obtain ⟨ad, cap, hlv⟩ := ownsS_form hrow.1
        subst hlv
        have hul : us.length = vs.length := by
          have := hrow.1.1
          rw [Nat.mul_one] at this
          exact this
        have hsc : ∀ (i : Nat) (u : Value) (o : ByteArray), us[i]? = some u → (vs.map (flat1 (fnT T)))[i]? = some o → FlatsTo b B w u o ∧ Sclr u ∧ o.size ≤ 10000 := by
          intro i u o hu ho
          rw [List.getElem?_map] at ho
          obtain ⟨y, hy, rfl⟩ := Option.map_eq_some_iff.1 ho
          have hys := hvs y (List.mem_of_getElem? hy)
          obtain ⟨f1, f2⟩ := flats_sc hT (hel i u y hu hy) hys
          exact ⟨f1, f2, by have := flat1_size (T := T) hys; omega⟩
        have h100 : ∀ o ∈ vs.map (flat1 (fnT T)), o.size ≤ 100 := by
          intro o ho
          rw [List.mem_map] at ho
          obtain ⟨y, hy, rfl⟩ := ho
          exact flat1_size (hvs y hy)
        have zf := listS_size _ h100 (by rw [List.length_map]; exact h8)
        have hfv : flatV (fnT T) t.v = listS (vs.map (flat1 (fnT T))) := by rw [hv]; rfl
        have hfl : FlatsTo b B w (.iface 164 (.slice ad vs.length cap)) (listS (vs.map (flat1 (fnT T)))) := by
          refine ⟨_, _, _, rfl, m_flat_list _, ahead_list _, enters_list, fun w' hk hBw => ?_⟩
          cases hvl : vs with
          | nil => exact list_flat0 ad cap w'
          | cons a l =>
            rw [← hvl]
            have hrow' : w'.ownsRow lo 66 1 (.slice ad vs.length cap) vs.length us := ownsS_frame hrow.1 (fun k k1 _ k3 => by
              have := hS k (hlo k k1 (hrow.2 k k3)).1
              exact hk.block k this.1 this.2)
            exact list_flat b B w (.slice ad vs.length cap) vs.length us (vs.map (flat1 (fnT T))) w' (SubRow.of hrow') (by rw [List.length_map]) (by omega) (by rw [hvl]; simp) hk hBw (fun i v o h1 h2 => (hsc i v o h1 h2).1) (by have := join_len _ h100 (by rw [List.length_map]; exact h8); omega)
        by_cases hflat : vs = [] ∨ (startS room t ++ flatV (fnT T) t.v ++ behS (startS room t) t).size ≤ wd
        · have hpl : pLines (flatV (fnT T)) wd room t = [startS room t ++ flatV (fnT T) t.v ++ behS (startS room t) t] := by
            unfold pLines vLines
            rw [if_pos (.inr (by rcases hflat with e | e; exact .inl (by rw [hv, e]; rfl); exact .inr e))]
          refine ⟨(hS _ sq).1, (hS _ sq).2, c2, ⟨S, hS, h0⟩, ⟨_, _, c4, fun w' cs hP hK hB hcs => ?_⟩, zp, zr, ?_⟩
          · rw [hpl, linesC_one, ← List.append_assoc, hfv]
            refine layValue_flat b B wd cs _ _ _ _ 0 ad vs.length cap true w w' hP hK hB hfl (asl_list _) ?_ (by omega) (by omega) (by omega) (by omega)
            rcases hflat with e | e
            · exact .inl (by rw [e]; rfl)
            · rw [hfv] at e
              exact .inr (by omega)
          · rw [hpl]
            refine linesC_len _ ?_ (by show 1 ≤ 10; omega)
            intro l hl
            rw [List.mem_singleton] at hl
            subst hl
            rw [ByteArray.size_append, ByteArray.size_append, hfv]
            omega
        · simp only [not_or] at hflat
          have hpl : pLines (flatV (fnT T)) wd room t = [startS room t ++ ⟨#[91]⟩] ++ (vs.map (flat1 (fnT T))).map elemS ++ [(⟨#[]⟩ : ByteArray) ++ ⟨#[93]⟩ ++ behS (startS room t) t] := by
            unfold pLines vLines
            rw [if_neg (by rw [hv]; rintro (e | e | e); exact e rfl; exact hflat.1 e; rw [hv] at hflat; exact hflat.2 e)]
            congr 2
            rw [hv, List.map_map]
            apply List.map_congr_left
            intro y hy
            show (⟨#[32, 32]⟩ : ByteArray) ++ flatV (fnT T) y ++ ⟨#[44]⟩ = elemS (flat1 (fnT T) y)
            rw [flatV_sc (hvs y hy)]
            rfl
          have hpos : 0 < vs.length := by
            cases vs with
            | nil => exact absurd rfl hflat.1
            | cons => simp
          refine ⟨(hS _ sq).1, (hS _ sq).2, c2, ⟨S, hS, h0⟩, ⟨_, _, c4, fun w' cs hP hK hB hcs => ?_⟩, zp, zr, ?_⟩
          · rw [hpl]
            rw [hfv] at hflat
            refine layValue_broken b B wd cs _ _ _ _ ad vs.length cap true us (vs.map (flat1 (fnT T))) w w' hP hK hB hB0 hfl (asl_list _) hpos (by have := hflat.2; omega) (by omega) hul (by rw [List.length_map]) (fun i u hu => ?_) hsc (by omega) (by omega) (by omega) hcs
            obtain ⟨g, e1, k1, k2, k3⟩ := rowv_cell hrow.1 i u hu
            subst e1
            have := hS g (hlo g k1 (hrow.2 g rfl)).1
            exact ⟨g, 0, rfl, this.1, this.2, by rw [Nat.zero_add]; exact k3⟩
          · rw [hpl]
            refine linesC_len _ ?_ (by simp; omega)
            intro l hl
            rw [List.mem_append, List.mem_append, List.mem_singleton, List.mem_singleton, List.mem_map] at hl
            have e1 : (⟨#[91]⟩ : ByteArray).size = 1 := rfl
            have e2 : (⟨#[93]⟩ : ByteArray).size = 1 := rfl
            have e3 : (⟨#[32, 32]⟩ : ByteArray).size = 2 := rfl
            have e4 : (⟨#[44]⟩ : ByteArray).size = 1 := rfl
            have e5 : (⟨#[]⟩ : ByteArray).size = 0 := rfl
            rcases hl with (rfl | ⟨o, ho, rfl⟩) | rfl
            · rw [ByteArray.size_append, e1]; omega
            · have := h100 o ho
              unfold elemS
              rw [ByteArray.size_append, ByteArray.size_append, e3, e4]; omega
            · rw [ByteArray.size_append, ByteArray.size_append, e5, e2]; omega
      · cases e
  · omega
end Go.Proofs.YtdebjhdafnpfkabGreatDoor

namespace Go.Proofs.YtdebjhdafnpfkabGreatDoor
open Go.ChangeShapes Go.WideShapes Go.ChangeAt Go.RowKit
set_option linter.unusedVariables false
set_option linter.unusedSimpArgs false
set_option maxRecDepth 100000 in
/-- A page without anything. -/
theorem pstring0 (B b : Nat) (wd : Int) (w : World) (h : PageAt B w b wd []) :
    Calls Tryz.prog 35 #[.pointer (some ⟨b, 0, none⟩)] w fun e w' => e = .returned (.string ⟨#[]⟩) ∧ Below B w w' := by
  obtain ⟨p, hB, v, hbk, hown, hne⟩ : ∃ p, PageP p B w b wd [] := by
    rcases h with h | h
    · exact ⟨_, h⟩
    · exact ⟨_, h⟩
  have c1 : w.drew.cell? ⟨b, 1, none⟩ = some v := by
    have : w.drew.heap[b]? = some (.cells #[p, v, .int .i64 wd] 88 (0, 0)) := hbk
    rw [Lib.cell_of_heap this]; rfl
  rcases hown.2 with ⟨rfl, _⟩ | ⟨g, cap, cur, rfl, hbg, hg, hnc, hcm, hcs, htake⟩
  · have hSD : (Builtin.unsafeSliceData_ #[43] 131 #[.slice none 0 0]).run Tryz.prog w.drew = .ok (.pointer none) w.drew := Lib.run_unsafeSliceData_nil _ _ _ _ _
    have hUS : (Builtin.unsafeString_ #[131, 3] 9 #[.pointer none, .int .i64 0]).run Tryz.prog w.drew = .ok (.string ⟨#[]⟩) w.drew := Lib.run_unsafeString_none _ _ _ _ _
    go_enter Tryz.func35, Tryz.ntmps35
    go_wp2
    go_region
    all_goals (go_wp2; go_ret; exact ⟨rfl, Below.drew (Below.refl B w)⟩)
  · by_cases hc : cap = 0
    · subst hc
      have hg' : w.drew.heap[g]? = some (.cells cur 5 (0, 0)) := hg
      have hSD := Lib.run_unsafeSliceData_zero (P := Tryz.prog) w.drew #[43] 131 5 Tryz.underlying131 ⟨g, 0, none⟩ 0 (5, cur.size) (by simp [World.shape?, hg'])
      have hUS : (Builtin.unsafeString_ #[131, 3] 9 #[.pointer (some ⟨w.drew.heap.size, 0, none⟩), .int .i64 0]).run Tryz.prog (w.drew.alloc (.view ⟨g, 0, none⟩ 5)) = .ok (.string ⟨#[]⟩) (w.drew.alloc (.view ⟨g, 0, none⟩ 5)) := Lib.run_unsafeString_none _ _ _ _ _
      have hUS2 : (Builtin.unsafeString_ #[131, 3] 9 #[.pointer (some ⟨w.heap.size, 0, none⟩), .int .i64 0]).run Tryz.prog (w.alloc (.view ⟨g, 0, none⟩ 5)).drew = .ok (.string ⟨#[]⟩) (w.alloc (.view ⟨g, 0, none⟩ 5)).drew := Lib.run_unsafeString_none _ _ _ _ _
      have c1' : w.cell? ⟨b, 1, none⟩ = some (.slice (some ⟨g, 0, none⟩) 0 0) := c1
      have hgl : g < w.heap.size := (Array.getElem?_eq_some_iff.1 hg).1
      have hbl : b < w.heap.size := (Array.getElem?_eq_some_iff.1 hbk).1
      have c2 : (w.drew.alloc (.view ⟨g, 0, none⟩ 5)).cell? ⟨b, 1, none⟩ = some (.slice (some ⟨g, 0, none⟩) 0 0) := (World.cell?_alloc_lt _ _ ⟨b, 1, none⟩ hbl).trans c1
      go_enter Tryz.func35, Tryz.ntmps35
      go_wp2
      go_region
      all_goals (go_wp2; go_ret; exact ⟨rfl, (Below.drew (Below.refl B w)).alloc (by show B ≤ w.heap.size; omega) _⟩)
    · have hSD : (Builtin.unsafeSliceData_ #[43] 131 #[.slice (some ⟨g, 0, none⟩) 0 cap]).run Tryz.prog w.drew = .ok (.pointer (some ⟨g, 0, none⟩)) w.drew := Lib.run_unsafeSliceData_row _ _ _ _ _ _ hc
      have hUS : (Builtin.unsafeString_ #[131, 3] 9 #[.pointer (some ⟨g, 0, none⟩), .int .i64 0]).run Tryz.prog w.drew = .ok (.string ⟨#[]⟩) w.drew := Lib.run_unsafeString_none _ _ _ _ _
      go_enter Tryz.func35, Tryz.ntmps35
      go_wp2
      go_region
      all_goals (go_wp2; go_ret; exact ⟨rfl, Below.drew (Below.refl B w)⟩)
end Go.Proofs.YtdebjhdafnpfkabGreatDoor
