import Derived.Test.YtdebjhdafnpfkaaGreatDoorRefN
import Derived.Test.YtdebjhdafnpfkaaGreatDoorWorld7
import Derived.Deep.RegionLaw
namespace Go.Proofs.YtdebjhdafnpfkaaGreatDoor
open Go.ChangeShapes Go.WideShapes Go.ChangeAt Go.RowKit
set_option linter.unusedVariables false

/-- What reading a line does. -/
def LineC (s : ByteArray) : Prop := ∀ (b : Nat) (x : St) (it : Value) (cs : List (List Value)) (items : List It) (w : World), RD w b s x it → Its w b it cs items → items.length ≤ 10000 → Inv s x → x.e = 0 →
    Calls Tryz.prog 32 #[.pointer (some ⟨b, 0, none⟩)] w fun e w' => ∃ pv fv vo, e = .returned (.agg #[.int .u8 (rline s items x).2.k, pv, fv, .pointer vo, .string (rline s items x).2.rem]) ∧ RD w' b s (rline s items x).1 it ∧ Kb b w w' ∧
      RIt w.heap.size w'.heap.size w' [.int .u8 (rline s items x).2.k, pv, fv, .pointer vo, .string (rline s items x).2.rem] (rline s items x).2

theorem step_append_at {P : Program} {ops : Array Oper} {o : Oper} {a : Act} {w : World} {K : Act → World → Prop} {Q : Exit → Act → World → Prop} {E : Prop} (hgd : o.guard = none) (s x : Operand) (t : TypeId)
    (ho : o.op = .call { callee := .builtin .append, args := #[s, x], argTypes := #[t, t] })
    (base : Nat) (e : TypeId) (i : TypeInfo) (z : Value) (size bytes : Nat) (ht : P.underlying t = some (.slice e)) (hi : P.info? e = some i) (hz : i.zero = some z)
    (hsize : i.size = size) (hby : i.bytes = bytes) (hzs : z.cells.size = size) (hsz : 0 < size)
    (v : Value) (n : Nat) (xs : List Value) (hs : a.eval s = v) (hown : w.ownsRow base e size v n xs)
    (ad : Addr) (m c : Nat) (news : List Value) (hx : a.eval x = .slice (some ad) m c) (hl : news.length = m * size) (hnews : ∀ j u, news[j]? = some u → w.cell? (ad.add j) = some u) (h1 : ∀ u ∈ news, u.oneCell' = true)
    (h63 : n + m ≤ maxLen) (hbytes : (n + m) * bytes ≤ 140737488355328) (hbase : base ≤ w.heap.size)
    (h : ∀ v' w', w'.ownsRow base e size v' (n + m) (xs ++ news) → w.grownBy w' v.ownBlock → (v'.ownBlock = v.ownBlock ∨ v'.ownBlock = some w.heap.size) → K (a.put o.dst v') w') :
    if Region.wanted o (yielded ops a.tmps) = true then Oper.wp P o a w K Q else E := by
  have hw : Region.wanted o (yielded ops a.tmps) = true := by simp [Region.wanted, hgd]
  rw [if_pos hw]
  obtain ⟨v', w', hr, h2, h3, h4, h5⟩ := run_append_own_at (P := P) w base t o.type e i z size bytes ht hi hz hsize hby hzs hsz v n xs hown ad m c news hl hnews h1 h63 hbytes hbase
  unfold Oper.wp execOp
  simp only [ho, resolve, invoke, builtin, Sem.run_bind, Sem.run_pure, Result.andThen_ok, List.map_toArray, List.map_cons, List.map_nil, hs, hx, hr]
  exact h v' w' h2 h3 h5

theorem rbytes_a (s : ByteArray) (x : St) : ∀ n, (rbytes s n x).a = x.a
  | 0 => rfl
  | n + 1 => by
    unfold rbytes
    split
    · exact rbytes_a s x n
    · rw [rno_at]; exact rbytes_a s x n

theorem kb_below {b : Nat} {u v : World} (h : Kb b u v) (hb : b ≤ u.heap.size) : Below b u v := ⟨h.os, h.tape, h.output, h.size, fun k hk => h.block k (by omega) (by omega)⟩
theorem gd_item5 {s : ByteArray} {x : St} (items : List It) (h : Inv s x) : Gd s x (ritem s items x).1 := by
  unfold ritem
  split
  · rename_i hr
    have h1 := gd_must (gd_blanks (gd_path (gd_blanks (gd_step (Gd.refl h) hr) false)) false) 93
    exact gd_ite (gd_no h1 (by decide)) h1
  · have h1 := gd_f (gd_val 7 0) (gd_blanks (gd_must (gd_blanks (gd_path (Gd.refl h)) false) 61) false)
    exact gd_ite (gd_no h1 (by decide)) h1
def rbody5 (s : ByteArray) (items : List It) (x : St) : St × It := if ris s x 35 = true then (x, ⟨35, [], [], V0, ⟨#[]⟩⟩) else (rblanks s (ritem s items x).1 false, (ritem s items x).2)
def rnote5 (s : ByteArray) (r : St × It) : St × It := if ris s r.1 35 = true then (⟨scan inLine s r.1.a, r.1.e, r.1.p⟩, ⟨r.2.k, r.2.path, r.2.full, r.2.v, s.extract r.1.a (scan inLine s r.1.a)⟩) else r
theorem gd_line5 {s : ByteArray} {x : St} (items : List It) (h : Inv s x) : Gd s x (rline s items x).1 := by
  have h1 := gd_blanks (Gd.refl h) false
  have hb : Gd s (rblanks s x false) (rbody5 s items (rblanks s x false)).1 := by
    unfold rbody5
    split
    · exact Gd.refl h1.1
    · exact gd_blanks (gd_item5 items h1.1) false
  have hn : Gd s x (rnote5 s (rbody5 s items (rblanks s x false))).1 := by
    unfold rnote5
    split
    · exact gd_scan (h1.trans hb) _
    · exact h1.trans hb
  have e : rline s items x = if s.size ≤ (rblanks s x false).a ∨ bt s (rblanks s x false).a = 10 then (rblanks s x false, ⟨32, [], [], V0, ⟨#[]⟩⟩) else rnote5 s (rbody5 s items (rblanks s x false)) := rfl
  rw [e]
  split
  · exact h1
  · exact hn
theorem Its.drew {w : World} {b : Nat} {it : Value} {cs : List (List Value)} {items : List It} (h : Its w b it cs items) : Its w.drew b it cs items := h.frame (Nat.le_refl _) (fun _ _ _ => rfl)
theorem cells_at (w : World) (g : Nat) (arr : Array Value) (t : TypeId) (h : w.heap[g]? = some (.cells arr t (0, 0))) : ∀ j u, arr.toList[j]? = some u → w.cell? ((⟨g, 0, none⟩ : Addr).add j) = some u := by
  intro j u hu
  have e : (⟨g, 0, none⟩ : Addr).add j = ⟨g, j, none⟩ := by unfold Addr.add; split <;> simp_all
  rw [e]
  simp only [World.cell?, h]
  simpa using hu
theorem rbytes_stuck (s : ByteArray) (x : St) (h : x.e ≠ 0) : ∀ n, rbytes s n x = x
  | 0 => rfl
  | n + 1 => by
    unfold rbytes
    rw [rbytes_stuck s x h n]
    split
    · rfl
    · simp [rno, h]

set_option maxRecDepth 100000 in
set_option maxHeartbeats 4000000 in
theorem read_any (s : ByteArray) (w : World) (hs63 : s.size ≤ 4611686018427387904) (hL : s.size ≤ 4000 → LineC s) :
    Calls Tryz.prog 12 #[.string s] w fun e w' => ∃ it cs, e = .returned (ptr w.heap.size) ∧ RD w' w.heap.size s (rread s).1 it ∧ Its w' w.heap.size it cs (rread s).2 ∧ Below w.heap.size w w' := by
  obtain ⟨i0, hi, hz0, hz1, hz2⟩ := info_parts info_item
  have HL : Hid (s.size ≤ 4000 → LineC s) := hL
  clear hL
  have D0 : Hid (RD (w.alloc (.cells #[.string s, .int .i64 0, .int .i64 0, .int .i64 0, .slice none 0 0] 37)) w.heap.size s ⟨0, 0, 0⟩ (.slice none 0 0)) := ⟨by simp, by simp, by simp, by simp, by simp, fun o => by simp, by simp⟩
  have B0 : Hid (Below w.heap.size w (w.alloc (.cells #[.string s, .int .i64 0, .int .i64 0, .int .i64 0, .slice none 0 0] 37))) := (Below.refl _ _).alloc (Nat.le_refl _) _
  have hrr : Hid (rread s = rreadLoop s (s.size + 1) (rbytes s s.size (if 4000 < s.size then rno ⟨0, 0, 0⟩ 1 0 else ⟨0, 0, 0⟩)) []) := rfl
  by_cases hbig : 4000 < s.size
  · have tb : decide ((s.size : Int) > 4000) = true := by simp; omega
    go_enter Tryz.func12, Tryz.ntmps12
    go_wp2_with fail
    refine (no_any w.heap.size s ⟨0, 0, 0⟩ (.slice none 0 0) 1 0 _ D0.out).mono ?_
    rintro e w1 ⟨rfl, hd1, hk1⟩
    have D1 : Hid (RD w1 w.heap.size s ⟨0, 1, 0⟩ (.slice none 0 0)) := hd1
    have B1 : Hid (Below w.heap.size w w1) := B0.out.trans (kb_below hk1 (by simp))
    clear hd1 hk1 D0 B0
    go_wp2_with fail
    go_loopw [4] (fun i wr => ∃ k : Nat, k ≤ s.size ∧ i = .int .i64 k ∧ Hid (RD wr w.heap.size s (rbytes s k ⟨0, 1, 0⟩) (.slice none 0 0)) ∧ Hid (Below w.heap.size w wr)) (fun i _ => s.size - (intOf i).toNat)
    case atStart => exact ⟨0, Nat.zero_le _, rfl, D1, B1⟩
    case round =>
      obtain ⟨k, hk, rfl, h1, hbl⟩ := hrel
      by_cases hlt : k < s.size
      · have hbt := bt_in s k hlt
        have td : decide (k < s.size) = true := by simpa using hlt
        by_cases hok : okByte (bt s k) = true
        · have hnx : Hid (rbytes s (k + 1) ⟨0, 1, 0⟩ = rbytes s k ⟨0, 1, 0⟩) := by unfold Hid; rw [rbytes, if_pos hok]
          simp only [okByte, decide_eq_true_eq] at hok
          rcases hok with h9 | h10 | ⟨ha, hb⟩
          · have t9 : ((bt s k : Int) != 9) = false := by simp [h9]
            clear h9
            go_wp2_with fail
            go_roundw
            case rel => exact ⟨k + 1, by omega, by go_num, by rw [hnx.out]; exact h1, hbl⟩
            case measure => simp [intOf]; omega
          · have t9 : ((bt s k : Int) != 9) = true := by simp [h10]
            have t10 : ((bt s k : Int) != 10) = false := by simp [h10]
            clear h10
            go_wp2_with fail
            go_roundw
            case rel => exact ⟨k + 1, by omega, by go_num, by rw [hnx.out]; exact h1, hbl⟩
            case measure => simp [intOf]; omega
          · have t9 : ((bt s k : Int) != 9) = true := by simp; omega
            have t10 : ((bt s k : Int) != 10) = true := by simp; omega
            have t32 : decide ((bt s k : Int) < 32) = false := by simp; omega
            have t126 : decide ((bt s k : Int) > 126) = false := by simp; omega
            go_wp2_with fail
            go_roundw
            case rel => exact ⟨k + 1, by omega, by go_num, by rw [hnx.out]; exact h1, hbl⟩
            case measure => simp [intOf]; omega
        · have hnx : Hid (rbytes s (k + 1) ⟨0, 1, 0⟩ = rno (rbytes s k ⟨0, 1, 0⟩) 2 k) := by unfold Hid; rw [rbytes, if_neg hok]
          simp only [okByte, decide_eq_true_eq] at hok
          have t9 : ((bt s k : Int) != 9) = true := by simp; omega
          have t10 : ((bt s k : Int) != 10) = true := by simp; omega
          rcases (show bt s k < 32 ∨ 126 < bt s k by omega) with hq | hq
          · have t32 : decide ((bt s k : Int) < 32) = true := by simp; omega
            clear hok
            go_wp2_with fail
            refine (no_any w.heap.size s _ (.slice none 0 0) 2 k _ h1.out).mono ?_
            rintro e w5 ⟨rfl, hd5, hk5⟩
            have D5 : Hid _ := hd5
            have B5 : Hid (Below w.heap.size w w5) := hbl.out.trans (kb_below hk5 hbl.out.size)
            clear hd5 hk5
            go_wp2_with fail
            go_roundw
            case rel => exact ⟨k + 1, by omega, by go_num, by rw [hnx.out]; exact D5, B5⟩
            case measure => simp [intOf]; omega
          · have t32 : decide ((bt s k : Int) < 32) = false := by simp; omega
            have t126 : decide ((bt s k : Int) > 126) = true := by simp; omega
            clear hok
            go_wp2_with fail
            refine (no_any w.heap.size s _ (.slice none 0 0) 2 k _ h1.out).mono ?_
            rintro e w5 ⟨rfl, hd5, hk5⟩
            have D5 : Hid _ := hd5
            have B5 : Hid (Below w.heap.size w w5) := hbl.out.trans (kb_below hk5 hbl.out.size)
            clear hd5 hk5
            go_wp2_with fail
            go_roundw
            case rel => exact ⟨k + 1, by omega, by go_num, by rw [hnx.out]; exact D5, B5⟩
            case measure => simp [intOf]; omega
      · have td : decide (k < s.size) = false := by simpa using hlt
        have ek : k = s.size := by omega
        subst ek
        have e1 : rbytes s s.size ⟨0, 1, 0⟩ = ⟨0, 1, 0⟩ := rbytes_stuck s ⟨0, 1, 0⟩ (by decide) _
        rw [e1] at h1
        have hE := h1.out.E
        simp only at hE
        have hfin : Hid (rread s = (⟨0, 1, 0⟩, [])) := by
          unfold Hid
          rw [hrr.out, if_pos hbig]
          rw [show rno ⟨0, 0, 0⟩ 1 0 = (⟨0, 1, 0⟩ : St) from rfl, rbytes_stuck s ⟨0, 1, 0⟩ (by decide)]
          simp [rreadLoop]
        clear e1 hrr
        go_wp2_with fail
        go_loopw [] (fun w' => Hid (RD w' w.heap.size s ⟨0, 1, 0⟩ (.slice none 0 0)) ∧ Hid (Below w.heap.size w w')) (fun _ => 0)
        case atStart => exact ⟨h1, hbl⟩
        case round =>
          obtain ⟨h2, hb2⟩ := hrel
          have hE2 := h2.out.E
          simp only at hE2
          go_wp2_with fail
          go_ret
          refine ⟨.slice none 0 0, [], rfl, by rw [hfin.out]; exact h2.out, by rw [hfin.out]; exact Its.nil _ _, hb2.out⟩
  · have tb : decide ((s.size : Int) > 4000) = false := by simp; omega
    go_enter Tryz.func12, Tryz.ntmps12
    go_wp2_with fail
    go_loopw [4] (fun i wr => ∃ k : Nat, k ≤ s.size ∧ i = .int .i64 k ∧ Hid (RD wr w.heap.size s (rbytes s k ⟨0, 0, 0⟩) (.slice none 0 0)) ∧ Hid (Below w.heap.size w wr)) (fun i _ => s.size - (intOf i).toNat)
    case atStart => exact ⟨0, Nat.zero_le _, rfl, D0, B0⟩
    case round =>
      obtain ⟨k, hk, rfl, h1, hbl⟩ := hrel
      by_cases hlt : k < s.size
      · have hbt := bt_in s k hlt
        have td : decide (k < s.size) = true := by simpa using hlt
        by_cases hok : okByte (bt s k) = true
        · have hnx : Hid (rbytes s (k + 1) ⟨0, 0, 0⟩ = rbytes s k ⟨0, 0, 0⟩) := by unfold Hid; rw [rbytes, if_pos hok]
          simp only [okByte, decide_eq_true_eq] at hok
          rcases hok with h9 | h10 | ⟨ha, hb⟩
          · have t9 : ((bt s k : Int) != 9) = false := by simp [h9]
            clear h9
            go_wp2_with fail
            go_roundw
            case rel => exact ⟨k + 1, by omega, by go_num, by rw [hnx.out]; exact h1, hbl⟩
            case measure => simp [intOf]; omega
          · have t9 : ((bt s k : Int) != 9) = true := by simp [h10]
            have t10 : ((bt s k : Int) != 10) = false := by simp [h10]
            clear h10
            go_wp2_with fail
            go_roundw
            case rel => exact ⟨k + 1, by omega, by go_num, by rw [hnx.out]; exact h1, hbl⟩
            case measure => simp [intOf]; omega
          · have t9 : ((bt s k : Int) != 9) = true := by simp; omega
            have t10 : ((bt s k : Int) != 10) = true := by simp; omega
            have t32 : decide ((bt s k : Int) < 32) = false := by simp; omega
            have t126 : decide ((bt s k : Int) > 126) = false := by simp; omega
            go_wp2_with fail
            go_roundw
            case rel => exact ⟨k + 1, by omega, by go_num, by rw [hnx.out]; exact h1, hbl⟩
            case measure => simp [intOf]; omega
        · have hnx : Hid (rbytes s (k + 1) ⟨0, 0, 0⟩ = rno (rbytes s k ⟨0, 0, 0⟩) 2 k) := by unfold Hid; rw [rbytes, if_neg hok]
          simp only [okByte, decide_eq_true_eq] at hok
          have t9 : ((bt s k : Int) != 9) = true := by simp; omega
          have t10 : ((bt s k : Int) != 10) = true := by simp; omega
          rcases (show bt s k < 32 ∨ 126 < bt s k by omega) with hq | hq
          · have t32 : decide ((bt s k : Int) < 32) = true := by simp; omega
            clear hok
            go_wp2_with fail
            refine (no_any w.heap.size s _ (.slice none 0 0) 2 k _ h1.out).mono ?_
            rintro e w5 ⟨rfl, hd5, hk5⟩
            have D5 : Hid _ := hd5
            have B5 : Hid (Below w.heap.size w w5) := hbl.out.trans (kb_below hk5 hbl.out.size)
            clear hd5 hk5
            go_wp2_with fail
            go_roundw
            case rel => exact ⟨k + 1, by omega, by go_num, by rw [hnx.out]; exact D5, B5⟩
            case measure => simp [intOf]; omega
          · have t32 : decide ((bt s k : Int) < 32) = false := by simp; omega
            have t126 : decide ((bt s k : Int) > 126) = true := by simp; omega
            clear hok
            go_wp2_with fail
            refine (no_any w.heap.size s _ (.slice none 0 0) 2 k _ h1.out).mono ?_
            rintro e w5 ⟨rfl, hd5, hk5⟩
            have D5 : Hid _ := hd5
            have B5 : Hid (Below w.heap.size w w5) := hbl.out.trans (kb_below hk5 hbl.out.size)
            clear hd5 hk5
            go_wp2_with fail
            go_roundw
            case rel => exact ⟨k + 1, by omega, by go_num, by rw [hnx.out]; exact D5, B5⟩
            case measure => simp [intOf]; omega
      · have td : decide (k < s.size) = false := by simpa using hlt
        have ek : k = s.size := by omega
        subst ek
        have ha0 : (rbytes s s.size ⟨0, 0, 0⟩).a = 0 := rbytes_a s ⟨0, 0, 0⟩ s.size
        have hrd : Hid (rread s = rreadLoop s (s.size + 1) (rbytes s s.size ⟨0, 0, 0⟩) []) := by
          unfold Hid
          rw [hrr.out, if_neg hbig]
        clear hrr
        generalize rbytes s s.size ⟨0, 0, 0⟩ = y0 at *
        have hb0 : w.heap.size < wr.heap.size := h1.out.lt
        go_wp2_with fail
        go_loopw [] (fun w' => ∃ (y : St) (l : List It) (it : Value) (cs : List (List Value)) (n : Nat), Hid (RD w' w.heap.size s y it) ∧ Hid (Its w' w.heap.size it cs l) ∧ Hid (Below w.heap.size w w') ∧ Hid (rreadLoop s (s.size + 1) y0 [] = rreadLoop s (n + 1) y l) ∧ Hid (Inv s y) ∧ Hid (y.e = 0 → s.size ≤ y.a + n ∧ l.length ≤ y.a)) (fun w' => leftOf w' w.heap.size s.size)
        case atStart => exact ⟨y0, [], .slice none 0 0, [], s.size, h1, Its.nil _ _, hbl, rfl, ⟨by omega, fun _ => by omega⟩, fun _ => ⟨by omega, by simp⟩⟩
        case round =>
          obtain ⟨y, l, it, cs, n, h2, hits, hb2, hrun, hinv, hfu⟩ := hrel
          obtain ⟨hS, hA, hE, hP, hI, hF, hltr⟩ := h2.out
          have hstep : Hid (rreadLoop s (n + 1) y l = if y.e ≠ 0 ∨ s.size ≤ y.a then (y, l) else rreadLoop s n (if (rline s l y).1.e = 0 ∧ (rline s l y).1.a < s.size then rmust s (rline s l y).1 10 else (rline s l y).1) (l ++ [(rline s l y).2])) := rfl
          by_cases hgo : y.e = 0 ∧ y.a < s.size
          · obtain ⟨he, hl⟩ := hgo
            obtain ⟨hf1, hf2⟩ := hfu.out he
            have te : ((y.e : Int) == 0) = true := by simp [he]
            have td2 : decide (y.a < s.size) = true := by simpa using hl
            have hstep2 : Hid (rread s = rreadLoop s n (if (rline s l y).1.e = 0 ∧ (rline s l y).1.a < s.size then rmust s (rline s l y).1 10 else (rline s l y).1) (l ++ [(rline s l y).2])) := by
              unfold Hid
              rw [hrd.out, hrun.out, hstep.out, if_neg (by omega)]
            have HE : Hid (y.e = 0) := he
            clear he hstep
            go_wp2_with fail
            refine (HL.out (by omega) w.heap.size y it cs l _ h2.out hits.out (by omega) hinv.out HE.out).mono ?_
            rintro e w5 ⟨pv, fv, vo, rfl, hd5, hk5, hr5⟩
            have hg5 := gd_line5 l hinv.out
            have D5 : Hid (RD w5 w.heap.size s (rline s l y).1 it) := hd5
            have I5 : Hid (Its w5 w.heap.size it cs l) := hits.out.kb hk5
            have R5 : Hid (RIt wr.heap.size w5.heap.size w5 [.int .u8 (rline s l y).2.k, pv, fv, .pointer vo, .string (rline s l y).2.rem] (rline s l y).2) := hr5
            have B5 : Hid (Below w.heap.size w w5) := hb2.out.trans (kb_below hk5 hb2.out.size)
            have G5 : Hid (Gd s y (rline s l y).1) := hg5
            have hz5 := hk5.size
            have hib : Hid (∀ k, it.ownBlock = some k → k < wr.heap.size) := fun k hk => (hits.out.lt k hk).2
            have hgy := hg5.1.1
            have hgy2 := hg5.2
            clear hd5 hk5 hr5 hg5 hS hA hE hP hI hF hltr
            generalize (rline s l y).2 = t at *
            generalize (rline s l y).1 = y5 at *
            obtain ⟨pp, ff, vv, hcc, hp5, hf5, hrest⟩ := R5.out
            simp only [List.cons.injEq, and_true, true_and] at hcc
            obtain ⟨e1, e2, e3⟩ := hcc
            subst e1 e2
            obtain ⟨ap, cp, ep⟩ := owns_form hp5.1
            subst ep
            obtain ⟨af, cf, ef⟩ := owns_form hf5.1
            subst ef
            simp only [List.length_map] at R5
            simp only [List.length_map]
            clear hp5 hf5 hrest e3
            obtain ⟨ai, ci, ei⟩ := owns5_form I5.out.2.1
            subst ei
            obtain ⟨hS, hA, hE, hP, hI, hF, hltr⟩ := D5.out
            have hnw : Hid (∀ (o : Obj) (m : Nat), ∀ j u, [Value.int .u8 t.k, .slice ap t.path.length cp, .slice af t.full.length cf, .pointer vo, .string t.rem][j]? = some u → (((w5.alloc o).alloc (.cells #[.int .u8 t.k, .slice ap t.path.length cp, .slice af t.full.length cf, .pointer vo, .string t.rem] 72)).drewN m).cell? ((⟨w5.heap.size + 1, 0, none⟩ : Addr).add j) = some u) := fun o m j u hu =>
              cells_at _ (w5.heap.size + 1) #[.int .u8 t.k, .slice ap t.path.length cp, .slice af t.full.length cf, .pointer vo, .string t.rem] 72 (by have := heap_alloc_new (w5.alloc o) (.cells #[.int .u8 t.k, .slice ap t.path.length cp, .slice af t.full.length cf, .pointer vo, .string t.rem] 72); simpa using this) j u hu
            go_wp2_with fail
            go_region_law (refine step_append_at rfl (.tmp 65) (.tmp 67) 35 rfl (w.heap.size + 1) 72 i0 (.agg #[.int .u8 0, .slice none 0 0, .slice none 0 0, .pointer none, .string ⟨#[]⟩]) 5 80 Tryz.underlying35 hi hz0 hz1 hz2 rfl (by decide) (.slice ai l.length ci) l.length cs.flatten ?_ ((I5.out.alloc _).alloc _).2.1 ⟨w5.heap.size + 1, 0, none⟩ 1 1 [.int .u8 t.k, .slice ap t.path.length cp, .slice af t.full.length cf, .pointer vo, .string t.rem] ?_ ?_ ?_ ?_ ?_ ?_ ?_ ?_; (· first | (simp [Act.eval]; done) | simp [Act.eval, Act.put]); (· first | (simp [Act.eval]; done) | simp [Act.eval, Act.put]); (· rfl); (· exact hnw.out _ 1); (· intro u hu; simp at hu; rcases hu with rfl | rfl | rfl | rfl | rfl <;> rfl); (· unfold maxLen; omega); (· omega); (· simp; omega); intro v6 w6 hown6 hgrow6 hat6; obtain ⟨ad6, cp6, hv6⟩ := owns5_form hown6; subst hv6; have hb6 : w6.heap[w.heap.size]? = w5.heap[w.heap.size]? := (hgrow6.block w.heap.size (by simp; omega) (fun e => by have := (I5.out.lt _ e.symm).1; omega)).trans ((Below.heap_alloc _ _ _ (by simp; omega)).trans (Below.heap_alloc _ _ _ hltr)); have d6 := RD.of_block D5.out hb6 (by have := hgrow6.size; simp at this; omega); have i64 := d6.I; have f6 := d6.F)
            all_goals
              have hz6 : w5.heap.size + 1 + 1 ≤ w6.heap.size := by have := hgrow6.size; simpa using this
              have D6 : Hid _ := d6.setI (.slice ad6 (l.length + 1) cp6)
              have hlw : w.heap.size < wr.heap.size := h2.out.lt
              have T6 : Hid _ := Its.setB (Its.snoc (lo := wr.heap.size) (hi := w5.heap.size) (t := t) (Its.drew ((I5.out.alloc _).alloc _)) hgrow6 hown6 hat6 hlw (by show w5.heap.size ≤ ((w5.alloc _).alloc _).heap.size; simp; omega) hib.out (RIt.frame R5.out (fun k _ k2 => (Below.heap_alloc _ _ _ (by simp; omega)).trans (Below.heap_alloc _ _ _ k2)))) 4 (.slice ad6 (l.length + 1) cp6)
              have B6 : Hid _ := ((((B5.out.alloc (by have := B5.out.size; omega) _).alloc (by have := B5.out.size; simp; omega) _).drew).grown hgrow6 (by have := B5.out.size; simp; omega) (fun k hk => by have := (I5.out.lt k hk).1; omega)).setCell (p := ⟨w.heap.size, 4, none⟩) (Nat.le_refl _) (.slice ad6 (l.length + 1) cp6)
              obtain ⟨gS, gA, gE, gP, gI, gF, glt⟩ := d6
              obtain ⟨m, rfl⟩ : ∃ m, n = m + 1 := ⟨n - 1, by omega⟩
              have Hlen : Hid ((l ++ [t]).length = l.length + 1) := by unfold Hid; simp
              clear hown6 hgrow6 hat6 hb6 i64 f6 hS hA hE hP hI hF hltr I5 R5 B5 hnw
              by_cases hm : y5.e = 0 ∧ y5.a < s.size
              · obtain ⟨hme, hma⟩ := hm
                have se : ((y5.e : Int) == 0) = true := by simp [hme]
                have sd : decide (y5.a < s.size) = true := by simpa using hma
                have Hme : Hid (y5.e = 0) := hme
                have hfin : Hid (rreadLoop s (s.size + 1) y0 [] = rreadLoop s (m + 1) (rmust s y5 10) (l ++ [t])) := by
                  unfold Hid
                  rw [← hrd.out, hstep2.out, if_pos ⟨hme, hma⟩]
                clear hme
                go_wp2_with fail
                refine (must_any w.heap.size s y5 _ 10 _ (by omega) (by omega) D6.out).mono ?_
                rintro e w7 ⟨rfl, hd7, hk7⟩
                have D7 : Hid _ := hd7
                have T7 : Hid _ := Its.kb T6.out hk7
                have B7 : Hid _ := Below.trans B6.out (kb_below hk7 (by have := Below.size B6.out; exact this))
                have G7 : Hid (Gd s y (rmust s y5 10)) := gd_must G5.out 10
                have hpr : Hid ((rmust s y5 10).e = 0 → y.a + 1 ≤ (rmust s y5 10).a) := by
                  unfold Hid rmust
                  split
                  · intro _; show y.a + 1 ≤ y5.a + 1; omega
                  · intro e; simp [rno, Hme.out] at e
                clear hd7 hk7
                go_wp2_with fail
                go_roundw
                case rel => exact ⟨rmust s y5 10, l ++ [t], _, _, m, D7, T7, B7, hfin, G7.out.1, fun e => by have := hpr.out e; have := Hlen.out; omega⟩
                case measure => rw [RD.leftOf D7.out, h2.out.leftOf, if_pos HE.out]; have := hpr.out; split <;> omega
              · have hfin : Hid (rreadLoop s (s.size + 1) y0 [] = rreadLoop s (m + 1) y5 (l ++ [t])) := by
                  unfold Hid
                  rw [← hrd.out, hstep2.out, if_neg hm]
                have hpr : Hid (y5.e = 0 → y.a + 1 ≤ y5.a) := by unfold Hid; intro e; omega
                by_cases hme : y5.e = 0
                · have se : ((y5.e : Int) == 0) = true := by simp [hme]
                  have sd : decide (y5.a < s.size) = false := by simp; omega
                  clear hme hm
                  go_wp2_with fail
                  go_roundw
                  case rel => exact ⟨y5, l ++ [t], _, _, m, D6, T6, B6, hfin, G5.out.1, fun e => by have := hpr.out e; have := Hlen.out; omega⟩
                  case measure => rw [RD.leftOf D6.out, h2.out.leftOf, if_pos HE.out]; have := hpr.out; split <;> omega
                · have se : ((y5.e : Int) == 0) = false := by simpa using hme
                  clear hme hm
                  go_wp2_with fail
                  go_roundw
                  case rel => exact ⟨y5, l ++ [t], _, _, m, D6, T6, B6, hfin, G5.out.1, fun e => by have := hpr.out e; have := Hlen.out; omega⟩
                  case measure => rw [RD.leftOf D6.out, h2.out.leftOf, if_pos HE.out]; have := hpr.out; split <;> omega
          · have hfin : Hid (rread s = (y, l)) := by
              unfold Hid
              rw [hrd.out, hrun.out, hstep.out, if_pos (by omega)]
            by_cases he : y.e = 0
            · have te : ((y.e : Int) == 0) = true := by simp [he]
              have td2 : decide (y.a < s.size) = false := by simp; omega
              clear hgo he
              go_wp2_with fail
              go_ret
              exact ⟨it, cs, rfl, by rw [hfin.out]; exact h2.out, by rw [hfin.out]; exact hits.out, hb2.out⟩
            · have te : ((y.e : Int) == 0) = false := by simpa using he
              clear hgo he
              go_wp2_with fail
              go_ret
              exact ⟨it, cs, rfl, by rw [hfin.out]; exact h2.out, by rw [hfin.out]; exact hits.out, hb2.out⟩
end Go.Proofs.YtdebjhdafnpfkaaGreatDoor
