import Derived.Test.YtdebjhdafnpfkaaGreatDoorB17
import Derived.Test.YtdebjhdafnpfkaaGreatDoorB18
import Derived.LaidEql
import Derived.Stop.Asserts
import Derived.RowKitTokens
import Derived.Defers
import Derived.Recover
namespace Go.Proofs.YtdebjhdafnpfkaaGreatDoor
open Go.ChangeShapes Go.WideShapes Go.ChangeAt Go.RowKit
set_option linter.unusedVariables false
set_option linter.unusedSimpArgs false
theorem newCursor_any (s : ByteArray) (w : World) :
    Calls Tryz.prog 52 #[.string s] w fun e w' => e = .returned (.agg #[.string s, .int .i64 0, .int .i64 1]) ∧ Below w.heap.size w w' := by
  go_enter Tryz.func52, Tryz.ntmps52
  go_wp2
  exact bodyPost_ret (v := .agg #[.string s, .int .i64 0, .int .i64 1]) (by simp [results, Tryz.results52, go_sem]) rfl ⟨rfl, (Below.refl _ _).alloc (Nat.le_refl _) _⟩
/-- A Fault that was thrown. -/
structure Thrown (w : World) (e : Ending) (w' : World) (k l q : Nat) : Prop where
  e : e = .panicked [{ v := .iface 84 (.pointer (some ⟨q, 0, none⟩)), recovered := false }]
  ge : w.heap.size ≤ q
  lt : q < w'.heap.size
  K : w'.cell? ⟨q, 0, none⟩ = some (.int .i64 k)
  L : w'.cell? ⟨q, 1, none⟩ = some (.int .i64 l)
  bel : Below w.heap.size w w'
theorem Thrown.of {b : Nat} {w w1 w' : World} {e : Ending} {k l q : Nat} (h : Pan b w1 e w' k l q) (hb : b < w1.heap.size) (hw : w.heap.size ≤ b) (k1 : Below w.heap.size w w1) : Thrown w e w' k l q :=
  ⟨h.e, Nat.le_trans k1.size h.ge, h.lt, h.K, h.L, k1.trans ((h.kb.bel hb).mono hw)⟩
theorem scan_all (p : Nat → Bool) (s : ByteArray) : ∀ n a, a + n = s.size → (∀ i, a ≤ i → i < s.size → p (bt s i) = true) → skip p s n a = s.size
  | 0, a, h, _ => by show a = _; omega
  | n + 1, a, h, hp => by
    unfold skip
    rw [if_pos ⟨by omega, hp a (Nat.le_refl _) (by omega)⟩]
    exact scan_all p s n (a + 1) (by omega) (fun i h1 h2 => hp i (by omega) h2)
theorem scan_first (p : Nat → Bool) (s : ByteArray) (i : Nat) : ∀ n a, a ≤ i → i < a + n → i < s.size → (∀ j, a ≤ j → j < i → p (bt s j) = true) → p (bt s i) = false → skip p s n a = i
  | 0, a, h1, h2, _, _, _ => by omega
  | n + 1, a, h1, h2, h3, hp, hn => by
    unfold skip
    by_cases e : a = i
    · subst e
      rw [if_neg (by rw [hn]; simp)]
    · rw [if_pos ⟨by omega, hp a (Nat.le_refl _) (by omega)⟩]
      exact scan_first p s i n (a + 1) (by omega) (by omega) h3 (fun j q1 q2 => hp j (by omega) q2) hn
theorem checkBytes_any (s : ByteArray) (w : World) (hs : s.size ≤ 4000) :
    Calls Tryz.prog 51 #[.string s] w fun e w' => (scan okByte s 0 = s.size ∧ e = .returned (.tuple #[]) ∧ Below w.heap.size w w') ∨ (scan okByte s 0 < s.size ∧ ∃ q, Thrown w e w' 2 (lineAt s (scan okByte s 0)) q) := by
  have h2 := scan_le okByte s 0 (Nat.zero_le _)
  go_enter Tryz.func51, Tryz.ntmps51
  go_wp2_with fail
  refine (newCursor_any s _).mono ?_
  rintro e w1 ⟨rfl, hB1⟩
  have HB1 : Hid (Below w.heap.size w w1) := hB1
  have hz1 := hB1.size
  clear hB1
  have HP1 : Hid (PC (w1.alloc (.cells #[.string s, .int .i64 0, .int .i64 1] 108)) w1.heap.size s 0) := ⟨by simp, by simp, by simp [lineAt], fun o => by simp, by simp⟩
  have HB2 : Hid (Below w.heap.size w (w1.alloc (.cells #[.string s, .int .i64 0, .int .i64 1] 108))) := HB1.out.alloc hz1 _
  go_wp2_with fail
  refine (take_mayStand w1.heap.size s 0 _ hs (Nat.zero_le _) HP1.out).mono ?_
  rintro e w3 ⟨rfl, hp3, hk3⟩
  have HP3 : Hid (PC w3 w1.heap.size s (scan okByte s 0)) := hp3
  have HB3 : Hid (Below w.heap.size w w3) := HB2.out.trans ((hk3.kb.bel (by simp)).mono hz1)
  clear hp3 hk3
  by_cases hd : scan okByte s 0 = s.size
  · have td : decide (scan okByte s 0 = s.size) = true := by simpa using hd
    have Hd : Hid (scan okByte s 0 = s.size) := hd
    clear hd
    go_wp2_with fail
    refine (done_any w1.heap.size s (scan okByte s 0) _ hs h2 HP3.out).mono ?_
    rintro e w4 ⟨rfl, k4, rfl⟩
    go_wp2_with fail
    go_returns
    exact .inl ⟨Hd.out, rfl, HB3.out.trans (((Kb.refl w1.heap.size w3).drewN k4).bel HP3.out.lt |>.mono hz1)⟩
  · have td : decide (scan okByte s 0 = s.size) = false := by simpa using hd
    have Hd : Hid (scan okByte s 0 < s.size) := by unfold Hid; omega
    clear hd
    go_wp2_with fail
    refine (done_any w1.heap.size s (scan okByte s 0) _ hs h2 HP3.out).mono ?_
    rintro e w4 ⟨rfl, k4, rfl⟩
    go_wp2_with fail
    refine (fail_any w1.heap.size s (scan okByte s 0) 2 _ (HP3.out.drewN k4)).mono ?_
    rintro e w5 ⟨q, hq⟩
    have he' := hq.e
    subst he'
    refine ⟨rfl, .inr ⟨Hd.out, q, Thrown.of hq ?_ hz1 ?_⟩⟩
    · exact (HP3.out.drewN k4).lt
    · exact HB3.out.trans (((Kb.refl w1.heap.size w3).drewN k4).bel HP3.out.lt |>.mono hz1)
theorem clone_any (s : ByteArray) (w : World) (hs : s.size ≤ 4000) :
    Calls Tryz.prog 48 #[.string s] w fun e w' => e = .returned (.string s) ∧ Below w.heap.size w w' := by
  go_enter Tryz.func48, Tryz.ntmps48
  go_wp2_with fail
  refine (Tryz.stringslite_Clone s _ (by omega)).mono ?_
  rintro e w1 ⟨rfl, hB⟩
  have HB : Hid (Below w.heap.size w w1) := hB
  clear hB
  go_wp2_with fail
  go_ret
  exact ⟨rfl, HB.out⟩
theorem failAt_new (k l : Nat) (w : World) : Calls Tryz.prog 50 #[.int .i64 k, .int .i64 l] w fun e w' => ∃ q, Thrown w e w' k l q := by
  go_enter Tryz.func50, Tryz.ntmps50
  go_wp2
  exact ⟨rfl, w.heap.size, ⟨rfl, Nat.le_refl _, by simp, by simp, by simp, (Below.refl _ _).alloc (Nat.le_refl _) _⟩⟩
/-- What was read, as it lies. -/
def SheetOk (w0 w : World) (q : Nat) (items : List It) : Prop :=
  ItsOk items ∧ items.length ≤ 4000 ∧ q < w.heap.size ∧ ∃ b nb hv pv ev es, w0.heap.size ≤ b ∧ b < q ∧ nb ≤ q ∧ w.cell? ⟨q, 0, none⟩ = some ev ∧ PT w b nb (jn (rtable items)) hv pv ev (hdrs items) (prs items) es items
/-- What Read comes to. -/
def ReadP (s : ByteArray) (w : World) (e : Ending) (w' : World) : Prop :=
  ((rread s).1.e = 0 ∧ ∃ q, e = .returned (ptr q) ∧ w.heap.size ≤ q ∧ SheetOk w w' q (rread s).2 ∧ Below w.heap.size w w') ∨ ((rread s).1.e ≠ 0 ∧ ∃ q, Thrown w e w' (rread s).1.e (rlineNo s (rread s).1) q)
theorem loop_off (s : ByteArray) (n : Nat) (x : St) (l : List It) (h : x.e ≠ 0) : rreadLoop s n x l = (x, l) := by
  cases n with
  | zero => rfl
  | succ n => simp only [rreadLoop]; rw [if_pos (.inl h)]
theorem loop_end (s : ByteArray) (n : Nat) (x : St) (l : List It) (h : s.size ≤ x.a) : rreadLoop s n x l = (x, l) := by
  cases n with
  | zero => rfl
  | succ n => simp only [rreadLoop]; rw [if_pos (.inr h)]
theorem loop_step (s : ByteArray) (n : Nat) (x : St) (l : List It) (he : x.e = 0) (h : x.a < s.size) : rreadLoop s (n + 1) x l = rreadLoop s n (lineZ s l x) (l ++ [(rline s l x).2]) := by
  simp only [rreadLoop]
  rw [if_neg (by rintro (q | q); exact q he; omega)]
  rfl
theorem lineZ_err {s : ByteArray} {x : St} (items : List It) (hi : Inv s x) (hx : x.e = 0) : ErrIn s (lineZ s items x) := by
  unfold lineZ
  have h0 : ErrIn s x := fun q => absurd hx q
  have h1 := e_line items hi h0 hx
  exact e_ite (e_must (gd_line items hi).1 h1 10) h1
theorem lineZ_a {s : ByteArray} {x : St} (items : List It) (ha : x.a < s.size) (hx : x.e = 0) (hz : (lineZ s items x).e = 0) : x.a < (lineZ s items x).a ∧ (lineZ s items x).a ≤ s.size := by
  have hi : Inv s x := ⟨by omega, fun _ => by omega⟩
  have hg := gd_line items hi
  have hg2 := hg.2
  unfold lineZ at *
  by_cases hc : (rline s items x).1.e = 0 ∧ (rline s items x).1.a < s.size
  · rw [if_pos hc] at hz ⊢
    have h10 : bt s (rline s items x).1.a = 10 := by
      apply Classical.byContradiction
      intro q
      rw [rmust_miss s _ 10 hc.1 (by decide) q] at hz
      cases hz
    rw [rmust_hit s _ 10 hc.1 (by decide) h10]
    exact ⟨by show x.a < (rline s items x).1.a + 1; omega, by show (rline s items x).1.a + 1 ≤ _; omega⟩
  · rw [if_neg hc] at hz ⊢
    have := hg.1.2 hz
    have : ¬ (rline s items x).1.a < s.size := fun q => hc ⟨hz, q⟩
    omega
theorem lineNo_of {s : ByteArray} {y : St} (h : ErrIn s y) (he : y.e ≠ 0) : rlineNo s y = lineAt s y.p := by
  unfold rlineNo
  rw [if_neg]
  rintro (q | q)
  · exact (h he).1 q
  · exact he q
set_option maxHeartbeats 4000000 in
theorem pread_any (s : ByteArray) (w : World) (m : Int) (hs63 : s.size ≤ 4611686018427387904) (hm : w.cell? ⟨1, 0, none⟩ = some (.int .i64 m)) :
    Calls Tryz.prog 30 #[.string s] w fun e w' => ReadP s w e w' := by
  have hGw := lt_of_cell hm
  have Hm : Hid _ := hm
  clear hm
  by_cases h4 : 4000 < s.size
  · have t4 : decide ((s.size : Int) > 4000) = true := by simp; omega
    have R : Hid ((rread s).1 = ⟨0, 1, 0⟩) := by
      unfold Hid rread
      rw [if_pos h4, rno_on _ _ _ rfl]
      have : ∀ n, rbytes s n ⟨0, 1, 0⟩ = ⟨0, 1, 0⟩ := by
        intro n
        induction n with
        | zero => rfl
        | succ n ih =>
          unfold rbytes
          rw [ih]
          split
          · rfl
          · exact rno_off _ _ _ (by decide)
      rw [this, loop_off _ _ _ _ (by decide)]
    clear h4
    go_enter Tryz.func30, Tryz.ntmps30
    go_wp2_with fail
    refine (failAt_new 1 0 _).mono ?_
    rintro e w1 ⟨q, hq⟩
    have he' := hq.e
    subst he'
    refine ⟨rfl, .inr ?_⟩
    rw [R.out]
    exact ⟨by simp, q, hq⟩
  · have t4 : decide ((s.size : Int) > 4000) = false := by simp; omega
    have hs : s.size ≤ 4000 := by omega
    have R0 : Hid (rread s = rreadLoop s (s.size + 1) (rbytes s s.size ⟨0, 0, 0⟩) []) := by
      unfold Hid rread
      rw [if_neg h4]
    have BF : Hid _ := bytes_first s s.size (Nat.le_refl _)
    clear h4
    go_enter Tryz.func30, Tryz.ntmps30
    go_wp2_with fail
    refine (checkBytes_any s _ hs).mono ?_
    rintro e w1 (⟨hsc, rfl, hB1⟩ | ⟨hsc, q, hq⟩)
    · have R1 : Hid (rread s = rreadLoop s (s.size + 1) ⟨0, 0, 0⟩ []) := by
        unfold Hid
        rw [R0.out]
        rcases BF.out with ⟨h1, _⟩ | ⟨i, h1, h2, h3, _⟩
        · rw [h1]
        · have : scan okByte s 0 = i := scan_first okByte s i (s.size - 0) 0 (Nat.zero_le _) (by omega) h1 (fun j _ q2 => h3 j q2) h2
          omega
      have HB1 : Hid (Below w.heap.size w w1) := hB1
      have hz1 := hB1.size
      clear hB1 BF R0 hsc
      go_wp2_with fail
      refine (clone_any s _ hs).mono ?_
      rintro e w2 ⟨rfl, hB2⟩
      have HB2 : Hid (Below w.heap.size w w2) := HB1.out.trans (hB2.mono hz1)
      have hz2 := HB2.out.size
      clear hB2
      go_wp2_with fail
      refine (newCursor_any s _).mono ?_
      rintro e w3 ⟨rfl, hB3⟩
      have HB3 : Hid (Below w.heap.size w w3) := HB2.out.trans (hB3.mono hz2)
      have hz3 := HB3.out.size
      clear hB3
      have HB4 : Hid (Below w.heap.size w (w3.alloc (.cells #[.string s, .int .i64 0, .int .i64 1, .string ⟨#[]⟩, .slice none 0 0, .slice none 0 0, .slice none 0 0] 114))) := HB3.out.alloc hz3 _
      have HS4 : Hid (PS (w3.alloc (.cells #[.string s, .int .i64 0, .int .i64 1, .string ⟨#[]⟩, .slice none 0 0, .slice none 0 0, .slice none 0 0] 114)) w3.heap.size s 0 []) := by
        refine ⟨⟨by simp, by simp, by simp [lineAt], fun o => by simp, by simp⟩, fun t ht => by simp at ht, by simp, w3.heap.size + 1, .slice none 0 0, .slice none 0 0, .slice none 0 0, [], ?_⟩
        exact ⟨by simp, by simp [rtable, jn], by simp, by simp, by simp, World.ownsRow_nil _ _ _ _, World.ownsRow_nil _ _ _ _, World.ownsRow_nil _ _ _ _, fun k hk => by simp [Value.ownBlock] at hk, fun k hk => by simp [Value.ownBlock] at hk, fun k hk => by simp [Value.ownBlock] at hk, rfl, fun i v t hi => by simp at hi⟩
      have hG : 1 < w3.heap.size := Nat.lt_of_lt_of_le hGw hz3
      generalize hb : w3.heap.size = b at *
      go_wp2_with fail
      go_loopw [] (fun wr => ∃ (n : Nat) (x : St) (items : List It), Hid (rread s = rreadLoop s (n + 1) x items) ∧ Hid (x.e = 0) ∧ x.a ≤ s.size ∧ s.size ≤ n + x.a ∧ items.length ≤ x.a ∧ Hid (PS wr b s x.a items) ∧ Hid (Below w.heap.size w wr)) (fun wr => s.size - atOf wr b)
      case atStart => exact ⟨s.size, ⟨0, 0, 0⟩, [], R1, rfl, Nat.zero_le _, by omega, Nat.zero_le _, HS4, HB4⟩
      case round =>
        clear HS4 HB4 R1
        obtain ⟨n, x, items, hr, hx0, hx1, hn, hil, hps, hBr⟩ := hrel
        by_cases hd : x.a = s.size
        · have td : decide (x.a = s.size) = true := by simpa using hd
          have F : Hid (rread s = (x, items)) := by
            unfold Hid
            rw [hr.out, loop_end _ _ _ _ (by omega)]
          have hltb := hps.out.pc.lt
          obtain ⟨nb, hv, pv, ev, es, hpt⟩ := hps.out.pt
          have HPT : Hid (PT wr b nb (jn (rtable items)) hv pv ev (hdrs items) (prs items) es items) := hpt
          have hc6 := hpt.c6
          clear hd hpt
          obtain ⟨ad6, cap6, hv6⟩ := ownsS_form HPT.out.o6
          subst hv6
          go_wp2_with fail
          refine (done_any b s x.a _ hs hx1 hps.out.pc).mono ?_
          rintro e w5 ⟨rfl, k5, rfl⟩
          have HPT5 : Hid (PT (wr.drewN k5) b nb (jn (rtable items)) hv pv (.slice ad6 es.length cap6) (hdrs items) (prs items) es items) := HPT.out.kc ((Kc.refl _ _).drewN k5)
          have HB5 : Hid (Below w.heap.size w (wr.drewN k5)) := hBr.out.trans ((((Kb.refl b wr).drewN k5).bel hltb).mono (by omega))
          have hlt5 : b < (wr.drewN k5).heap.size := hltb
          have hc65 : (wr.drewN k5).cell? ⟨b, 6, none⟩ = some (.slice ad6 es.length cap6) := hc6
          clear HPT hc6
          generalize wr.drewN k5 = w5 at *
          go_wp2_with fail
          go_ret
          refine .inl ⟨by rw [F.out]; exact hx0.out, _, rfl, HB5.out.size, ?_, HB5.out.alloc HB5.out.size _⟩
          rw [F.out]
          refine ⟨hps.out.ok, hps.out.len, by simp, b, nb, hv, pv, .slice ad6 es.length cap6, es, by omega, hlt5, HPT5.out.bnd, ?_, HPT5.out.alloc hlt5 _⟩
          rw [World.cell?_alloc_at _ _ _ _ rfl]
          rfl
        · have td : decide (x.a = s.size) = false := by simpa using hd
          have hxl : x.a < s.size := by omega
          have hltb := hps.out.pc.lt
          clear hd
          go_wp2_with fail
          refine (done_any b s x.a _ hs hx1 hps.out.pc).mono ?_
          rintro e w5 ⟨rfl, k5, rfl⟩
          have HPS5 : Hid (PS (wr.drewN k5) b s x.a items) := hps.out.drewN k5
          have HB5 : Hid (Below w.heap.size w (wr.drewN k5)) := hBr.out.trans ((((Kb.refl b wr).drewN k5).bel hltb).mono (by omega))
          have Hm5 : Hid ((wr.drewN k5).cell? ⟨1, 0, none⟩ = some (.int .i64 m)) := by
            unfold Hid
            rw [HB5.out.cell (p := ⟨1, 0, none⟩) hGw]
            exact Hm.out
          generalize wr.drewN k5 = w5 at *
          go_wp2_with fail
          refine (readLine_any b s items x _ m hs hx0.out hx1 (by omega) hG Hm5.out HPS5.out).mono ?_
          have LE : Hid (ErrIn s (lineZ s items x)) := lineZ_err items ⟨by omega, fun _ => hx1⟩ hx0.out
          have ST : Hid (rread s = rreadLoop s n (lineZ s items x) (items ++ [(rline s items x).2])) := by
            unfold Hid
            rw [hr.out, loop_step _ _ _ _ hx0.out hxl]
          rintro e w6 (⟨rfl, hz, hps6, hB6⟩ | ⟨hz, q, rfl, q1, q2, q3, q4, q5⟩)
          · obtain ⟨a1, a2⟩ := lineZ_a items hxl hx0.out hz
            have HPS6 : Hid (PS w6 b s (lineZ s items x).a (items ++ [(rline s items x).2])) := hps6
            have HB6 : Hid (Below w.heap.size w w6) := HB5.out.trans (hB6.mono (by omega))
            have HZ : Hid ((lineZ s items x).e = 0) := hz
            clear hps6 hB6 hz
            obtain ⟨n', hn'⟩ : ∃ n', n = n' + 1 := ⟨n - 1, by omega⟩
            subst hn'
            go_wp2_with fail
            go_roundw
            case rel => exact ⟨n', lineZ s items x, items ++ [(rline s items x).2], ST, HZ, a2, by omega, by simp; omega, HPS6, HB6⟩
            case measure =>
              rw [HPS6.out.pc.atOf, hps.out.pc.atOf]
              omega
          · refine ⟨rfl, .inr ?_⟩
            have F : (rread s).1 = lineZ s items x := by
              rw [ST.out, loop_off _ _ _ _ hz]
            rw [F]
            refine ⟨hz, q, ⟨rfl, by omega, q2, q3, ?_, HB5.out.trans (q5.mono (by omega))⟩⟩
            rw [lineNo_of LE.out hz]
            exact q4
    · have he' := hq.e
      subst he'
      refine ⟨rfl, .inr ?_⟩
      have F : (rread s).1 = ⟨0, 2, scan okByte s 0⟩ := by
        rw [R0.out]
        rcases BF.out with ⟨_, h2⟩ | ⟨i, h1, h2, h3, h4⟩
        · have : scan okByte s 0 = s.size := scan_all okByte s (s.size - 0) 0 (by omega) (fun i _ q => h2 i q)
          omega
        · have e : scan okByte s 0 = i := scan_first okByte s i (s.size - 0) 0 (Nat.zero_le _) (by omega) h1 (fun j _ q2 => h3 j q2) h2
          rw [h4, loop_off _ _ _ _ (by simp), e]
      rw [F]
      exact ⟨by simp, q, hq⟩
end Go.Proofs.YtdebjhdafnpfkaaGreatDoor

namespace Go.Proofs.YtdebjhdafnpfkaaGreatDoor
open Go.RowKit Go.Extern.Stop Go.Stop Go.Extern
set_option linter.unusedVariables false
set_option linter.unusedSimpArgs false
theorem valueOf_pp (t : Addr) (w : World) : (ReflectliteValue.unpack (.iface 104 (.pointer (some t)))).run Tryz.prog w
    = .ok (.agg #[.pointer (some ⟨7, 104, none⟩), .pointer (some ⟨w.heap.size, 0, none⟩), .int .u64 150]) (w.alloc (.cells #[.pointer (some t)] 104)) := by kernel_rfl
theorem type_pp (a : Addr) (w : World) : (ReflectliteValue.methodAny (ReflectliteValue.valueError "reflectlite.Value.Type" 0) (fun t _ _ _ => ReflectliteType.toType t) #[.agg #[.pointer (some ⟨7, 104, none⟩), .pointer (some a), .int .u64 150]]).run Tryz.prog w
    = .ok (.iface 120 (.agg #[.pointer (some ⟨7, 104, none⟩)])) w := by kernel_rfl
theorem m_kind (h : Value) (w : World) : (Go.method 402 120 (.agg #[h]) "Kind").run Tryz.prog w = .ok (201, h) w := by kernel_rfl
theorem kind_pp (w : World) : ((ReflectliteType.abiMethod fun t => Functor.map (fun a : Nat => Value.int IntKind.u8 (a : Int)) (Rtype.kind t)) #[.pointer (some ⟨7, 104, none⟩)]).run Tryz.prog w = .ok (.int .u8 22) w := by kernel_rfl
theorem kind_p (w : World) : ((ReflectliteType.abiMethod fun t => Functor.map (fun a : Nat => Value.int IntKind.u8 (a : Int)) (Rtype.kind t)) #[.pointer (some ⟨7, 84, none⟩)]).run Tryz.prog w = .ok (.int .u8 22) w := by kernel_rfl
theorem isNil_pp (a p : Addr) (W : World) (ha : W.cell? a = some (.pointer (some p))) :
    (ReflectliteValue.method (ReflectliteValue.valueError "reflectlite.Value.IsNil" 0) ReflectliteValue.isNil #[.agg #[.pointer (some ⟨7, 104, none⟩), .pointer (some a), .int .u64 150]]).run Tryz.prog W = .ok (.bool false) W := by
  have e : (ReflectliteValue.method (ReflectliteValue.valueError "reflectlite.Value.IsNil" 0) ReflectliteValue.isNil #[.agg #[.pointer (some ⟨7, 104, none⟩), .pointer (some a), .int .u64 150]]).run Tryz.prog W = (ReflectliteValue.isNil 104 a 150 22).run Tryz.prog W := by kernel_rfl
  rw [e]
  simp [ReflectliteValue.isNil, loadVar, isAgg, underlying, Tryz.underlying104, ha, Result.andThen]
theorem m_elem (h : Value) (w : World) : (Go.method 402 120 (.agg #[h]) "Elem").run Tryz.prog w = .ok (213, .agg #[h]) w := by kernel_rfl
theorem m_impl (h : Value) (w : World) : (Go.method 402 120 (.agg #[h]) "Implements").run Tryz.prog w = .ok (214, .agg #[h]) w := by kernel_rfl
theorem m_assign (h : Value) (w : World) : (Go.method 402 120 (.agg #[h]) "AssignableTo").run Tryz.prog w = .ok (211, .agg #[h]) w := by kernel_rfl
theorem elem_pp (w : World) : (ReflectliteType.method ReflectliteType.elem #[.agg #[.pointer (some ⟨7, 104, none⟩)]]).run Tryz.prog w = .ok (.iface 120 (.agg #[.pointer (some ⟨7, 84, none⟩)])) w := by kernel_rfl
theorem impl_p (w : World) : (ReflectliteType.relation "Implements" ReflectliteType.implements_ #[.agg #[.pointer (some ⟨7, 84, none⟩)], .iface 120 (.agg #[.pointer (some ⟨7, 28, none⟩)])]).run Tryz.prog w = .ok (.bool true) w := by kernel_rfl
theorem typeOf_p (v : Value) (w : World) : (ReflectliteType.typeOf #[.iface 84 v]).run Tryz.prog w = .ok (.iface 120 (.agg #[.pointer (some ⟨7, 84, none⟩)])) w := by kernel_rfl
theorem assign_p (w : World) : (ReflectliteType.relation "AssignableTo" ReflectliteType.assignableTo #[.agg #[.pointer (some ⟨7, 84, none⟩)], .iface 120 (.agg #[.pointer (some ⟨7, 84, none⟩)])]).run Tryz.prog w = .ok (.bool true) w := by kernel_rfl
theorem valueOf_p (e : Addr) (w : World) : (ReflectliteValue.unpack (.iface 84 (.pointer (some e)))).run Tryz.prog w
    = .ok (.agg #[.pointer (some ⟨7, 84, none⟩), .pointer (some ⟨w.heap.size, 0, none⟩), .int .u64 150]) (w.alloc (.cells #[.pointer (some e)] 84)) := by kernel_rfl
theorem elemOf_pp (w : World) : (Rtype.elem? 104).run Tryz.prog w = .ok (some 84) w := by kernel_rfl
theorem mk_p (p : Addr) (w : World) : (ReflectliteValue.mk 84 p ReflectliteValue.flagAddr).run Tryz.prog w = .ok (.agg #[.pointer (some ⟨7, 84, none⟩), .pointer (some p), .int .u64 406]) w := by kernel_rfl
theorem elemV_pp (a p : Addr) (W : World) (ha : W.cell? a = some (.pointer (some p))) :
    (ReflectliteValue.method (ReflectliteValue.valueError "reflectlite.Value.Elem" 0) ReflectliteValue.elem #[.agg #[.pointer (some ⟨7, 104, none⟩), .pointer (some a), .int .u64 150]]).run Tryz.prog W
      = .ok (.agg #[.pointer (some ⟨7, 84, none⟩), .pointer (some p), .int .u64 406]) W := by
  have e : (ReflectliteValue.method (ReflectliteValue.valueError "reflectlite.Value.Elem" 0) ReflectliteValue.elem #[.agg #[.pointer (some ⟨7, 104, none⟩), .pointer (some a), .int .u64 150]]).run Tryz.prog W = (ReflectliteValue.elem 104 a 150 22).run Tryz.prog W := by kernel_rfl
  rw [e]
  simp [ReflectliteValue.elem, loadVar, isAgg, underlying, Tryz.underlying104, ha, Result.andThen, elemOf_pp, mk_p]
theorem direct_p (w : World) : (Rtype.directlyAssignable 84 84).run Tryz.prog w = .ok true w := by kernel_rfl
theorem set_p (ta b e : Addr) (old : Value) (W : World) (hb : W.cell? b = some (.pointer (some e))) (ht : W.cell? ta = some old) (hf : W.frozen? ta = false) :
    (ReflectliteValue.set #[.agg #[.pointer (some ⟨7, 84, none⟩), .pointer (some ta), .int .u64 406], .agg #[.pointer (some ⟨7, 84, none⟩), .pointer (some b), .int .u64 150]]).run Tryz.prog W
      = .ok (.tuple #[]) (W.setCell ta (.pointer (some e))) := by
  have e' : (ReflectliteValue.set #[.agg #[.pointer (some ⟨7, 84, none⟩), .pointer (some ta), .int .u64 406], .agg #[.pointer (some ⟨7, 84, none⟩), .pointer (some b), .int .u64 150]]).run Tryz.prog W
      = (loadVar 84 b >>= fun val => storeVar 84 ta val >>= fun _ => pure (.tuple #[])).run Tryz.prog W := by kernel_rfl
  rw [e']
  simp only [Sem.run_bind]
  simp [ReflectliteValue.flagAddr, loadVar, isAgg, underlying, Tryz.underlying84, hb, Result.andThen, direct_p, storeVar, Value.cells, storeCells, Addr.add]
  rw [run_store Tryz.prog W ta _ _ (by rfl)]
  simp [ht, hf]
end Go.Proofs.YtdebjhdafnpfkaaGreatDoor

namespace Go.Proofs.YtdebjhdafnpfkaaGreatDoor
open Go.RowKit Go.Extern.Stop Go.Stop Go.Extern
set_option linter.unusedVariables false
set_option linter.unusedSimpArgs false
abbrev vpp (a : Addr) : Obj := .cells #[.pointer (some ⟨7, 104, none⟩), .pointer (some a), .int .u64 150] 154
set_option maxHeartbeats 4000000 in
theorem as_hit (e t : Addr) (old : Value) (w : World) (hg : w.cell? ⟨0, 0, none⟩ = some (.iface 120 (.agg #[.pointer (some ⟨7, 28, none⟩)]))) (ht0 : w.cell? t = some old) (hf0 : w.frozen? t = false) :
    Calls Tryz.prog 49 #[.iface 84 (.pointer (some e)), .iface 104 (.pointer (some t))] w fun ev w' => ev = .returned (.bool true) ∧
      w' = ((((w.alloc (.cells #[.pointer (some t)] 104)).alloc (vpp ⟨w.heap.size, 0, none⟩)).alloc (vpp ⟨w.heap.size, 0, none⟩)).alloc (.cells #[.pointer (some e)] 84)).setCell t (.pointer (some e)) := by
  have x1 := @run_callFunc_extern Tryz.prog 74 _ (fun args => ReflectliteValue.unpack (args.getD 0 (.tuple #[]))) Tryz.func74 (by kernel_rfl) (by kernel_rfl) (by kernel_rfl) (by kernel_rfl)
  have x2 := @run_callFunc_extern Tryz.prog 75 _ (ReflectliteValue.methodAny (ReflectliteValue.valueError "reflectlite.Value.Type" 0) (fun t _ _ _ => ReflectliteType.toType t)) Tryz.func75 (by kernel_rfl) (by kernel_rfl) (by kernel_rfl) (by kernel_rfl)
  have x3 := @run_callFunc_extern Tryz.prog 76 _ (ReflectliteValue.method (ReflectliteValue.valueError "reflectlite.Value.IsNil" 0) ReflectliteValue.isNil) Tryz.func76 (by kernel_rfl) (by kernel_rfl) (by kernel_rfl) (by kernel_rfl)
  have x4 := @run_callFunc_extern Tryz.prog 201 _ (ReflectliteType.abiMethod fun t => do pure (.int .u8 (← Rtype.kind t))) Tryz.func201 (by kernel_rfl) (by kernel_rfl) (by kernel_rfl) (by kernel_rfl)
  have x5 := @run_callFunc_extern Tryz.prog 213 _ (ReflectliteType.method ReflectliteType.elem) Tryz.func213 (by kernel_rfl) (by kernel_rfl) (by kernel_rfl) (by kernel_rfl)
  have x6 := @run_callFunc_extern Tryz.prog 214 _ (ReflectliteType.relation "Implements" ReflectliteType.implements_) Tryz.func214 (by kernel_rfl) (by kernel_rfl) (by kernel_rfl) (by kernel_rfl)
  have x7 := @run_callFunc_extern Tryz.prog 34 _ ReflectliteType.typeOf Tryz.func34 (by kernel_rfl) (by kernel_rfl) (by kernel_rfl) (by kernel_rfl)
  have x8 := @run_callFunc_extern Tryz.prog 211 _ (ReflectliteType.relation "AssignableTo" ReflectliteType.assignableTo) Tryz.func211 (by kernel_rfl) (by kernel_rfl) (by kernel_rfl) (by kernel_rfl)
  have x9 := @run_callFunc_extern Tryz.prog 100 _ (ReflectliteValue.method (ReflectliteValue.valueError "reflectlite.Value.Elem" 0) ReflectliteValue.elem) Tryz.func100 (by kernel_rfl) (by kernel_rfl) (by kernel_rfl) (by kernel_rfl)
  have x10 := @run_callFunc_extern Tryz.prog 101 _ ReflectliteValue.set Tryz.func101 (by kernel_rfl) (by kernel_rfl) (by kernel_rfl) (by kernel_rfl)
  have y1 := typeOf_p
  have y2 := m_assign
  have y3 := assign_p
  have y4 := valueOf_p
  have y5 := valueOf_pp
  have y6 := type_pp
  have y7 := m_kind
  have y8 := m_elem
  have y9 := m_impl
  have y10 := kind_pp
  have y11 := kind_p
  have y12 := elem_pp
  have y13 := impl_p
  have hlt := lt_of_cell hg
  have htl : t.block < w.heap.size := by
    rcases Nat.lt_or_ge t.block w.heap.size with h | h
    · exact h
    · simp [World.cell?, Array.getElem?_eq_none h] at ht0
  have z1 := isNil_pp ⟨w.heap.size, 0, none⟩ t ((w.alloc (.cells #[.pointer (some t)] 104)).alloc (vpp ⟨w.heap.size, 0, none⟩)) (by simp)
  have z2 : ((w.alloc (.cells #[.pointer (some t)] 104)).alloc (vpp ⟨w.heap.size, 0, none⟩)).cell? ⟨0, 0, none⟩ = some (.iface 120 (.agg #[.pointer (some ⟨7, 28, none⟩)])) := by
    rw [World.cell?_alloc_lt _ _ ⟨0, 0, none⟩ (by simp <;> omega), World.cell?_alloc_lt _ _ ⟨0, 0, none⟩ hlt]; exact hg
  have z3 := elemV_pp ⟨w.heap.size, 0, none⟩ t (((w.alloc (.cells #[.pointer (some t)] 104)).alloc (vpp ⟨w.heap.size, 0, none⟩)).alloc (vpp ⟨w.heap.size, 0, none⟩)) (by rw [World.cell?_alloc_lt _ _ ⟨w.heap.size, 0, none⟩ (by simp; omega)]; simp)
  have z4 := set_p t ⟨w.heap.size + 1 + 1 + 1, 0, none⟩ e old ((((w.alloc (.cells #[.pointer (some t)] 104)).alloc (vpp ⟨w.heap.size, 0, none⟩)).alloc (vpp ⟨w.heap.size, 0, none⟩)).alloc (.cells #[.pointer (some e)] 84))
    (by rw [World.cell?_alloc_at _ _ _ _ (by simp)]; rfl)
    (by rw [World.cell?_alloc_lt _ _ t (by simp; omega), World.cell?_alloc_lt _ _ t (by simp; omega), World.cell?_alloc_lt _ _ t (by simp; omega), World.cell?_alloc_lt _ _ t htl]; exact ht0)
    (by rw [World.frozen?_alloc_old _ _ t (by simp; omega), World.frozen?_alloc_old _ _ t (by simp; omega), World.frozen?_alloc_old _ _ t (by simp; omega), World.frozen?_alloc_old _ _ t (Nat.ne_of_lt htl)]; exact hf0)
  go_enter Tryz.func49, Tryz.ntmps49
  go_wp2
  refine wp_loop_rounds 1 ?_
  rw [rounds_succ]
  go_wp2
  go_ret
  exact ⟨rfl, rfl⟩
theorem assert_err (v : Value) (w : World) : (Instr.typeAssert (.iface 84 v) 20 28 true).run Tryz.prog w = .ok (.tuple #[.iface 84 v, .bool true]) w := by kernel_rfl
theorem faultOf_any (q : Nat) (w : World) (hg : w.cell? ⟨0, 0, none⟩ = some (.iface 120 (.agg #[.pointer (some ⟨7, 28, none⟩)]))) :
    Calls Tryz.prog 29 #[.iface 84 (.pointer (some ⟨q, 0, none⟩))] w fun e w' => e = .returned (.iface 84 (.pointer (some ⟨q, 0, none⟩))) ∧ Below w.heap.size w w' := by
  have hta := assert_err
  have Hg : Hid _ := hg
  have hlt := lt_of_cell hg
  clear hg
  have HG1 : Hid ((w.alloc (.cells #[.pointer none] 84)).cell? ⟨0, 0, none⟩ = some (.iface 120 (.agg #[.pointer (some ⟨7, 28, none⟩)]))) := by
    unfold Hid
    rw [World.cell?_alloc_lt _ _ ⟨0, 0, none⟩ hlt]
    exact Hg.out
  go_enter Tryz.func29, Tryz.ntmps29
  go_wp2_with fail
  refine (as_hit ⟨q, 0, none⟩ ⟨w.heap.size, 0, none⟩ (.pointer none) _ HG1.out (by simp) (by simp)).mono ?_
  rintro e w1 ⟨rfl, hw1⟩
  have hc : w1.cell? ⟨w.heap.size, 0, none⟩ = some (.pointer (some ⟨q, 0, none⟩)) := by
    rw [hw1]
    refine cell_set_same _ _ _ _ (.pointer none) ?_
    rw [World.cell?_alloc_lt _ _ ⟨w.heap.size, 0, none⟩ (by simp <;> omega), World.cell?_alloc_lt _ _ ⟨w.heap.size, 0, none⟩ (by simp <;> omega), World.cell?_alloc_lt _ _ ⟨w.heap.size, 0, none⟩ (by simp <;> omega), World.cell?_alloc_lt _ _ ⟨w.heap.size, 0, none⟩ (by simp)]
    simp
  have HB : Hid (Below w.heap.size w w1) := by
    unfold Hid
    rw [hw1]
    exact ((((((Below.refl _ _).alloc (Nat.le_refl _) _).alloc (by simp) _).alloc (by simp <;> omega) _).alloc (by simp <;> omega) _).alloc (by simp <;> omega) _).setCell (p := ⟨w.heap.size, 0, none⟩) (Nat.le_refl _) _
  clear hw1
  go_wp2_with fail
  go_ret
  exact ⟨rfl, HB.out⟩
end Go.Proofs.YtdebjhdafnpfkaaGreatDoor
