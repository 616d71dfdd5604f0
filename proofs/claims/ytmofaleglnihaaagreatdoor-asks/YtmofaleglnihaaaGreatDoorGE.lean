import Derived.Test.YtmofaleglnihaaaGreatDoorGC
import Derived.Defers
import Derived.Deep.RegionWith
import Derived.ChangeSame
import Derived.ChangeVars
import Derived.JoinedOf
import Derived.RowKitTokens
import Derived.LaidLaws
import Derived.LaidHandle
import Derived.HandedShaped
import Derived.Lay
import Derived.Stop.Joined
import Derived.Shelf.Vars
import Derived.ChangeMaps5
import Derived.Test.YtmofaleglnihaaaGreatDoorTie
import Derived.Test.YtmofaleglnihaaaGreatDoorCards
import Derived.SevenTiedAt
namespace Go.Proofs.YtmofaleglnihaaaGreatDoor
open Go.RowKit Go.Extern.Stop Go.Stop Go.Extern
set_option linter.unusedVariables false
set_option linter.unusedSimpArgs false

theorem typeOf_k (v : Value) (w : World) : (ReflectliteType.typeOf #[.iface 34 v]).run Tryz.prog w = .ok (.iface 91 (.agg #[.pointer (some ⟨7, 34, none⟩)])) w := by kernel_rfl
theorem call_comp (w : World) : (callFunc 167 #[.agg #[.pointer (some ⟨7, 34, none⟩)]]).run Tryz.prog w = .ok (.value (.bool true)) w := by kernel_rfl
theorem m_comp (v : Value) (w : World) : (Go.method 359 91 v "Comparable").run Tryz.prog w = .ok (167, v) w := by kernel_rfl
theorem m_unwrap (v : Value) (w : World) : (Go.method 359 69 v "Unwrap").run Tryz.prog w = .ok (164, v) w := by kernel_rfl
theorem noIs_k (v : Value) (xT : TypeId) (w : World) : (Instr.typeAssert (.iface 34 v) xT 93 true).run Tryz.prog w = .ok (.tuple #[.nilIface, .bool false]) w := run_typeAssert_lacksB Tryz.underlying93 (by kernel_rfl) (by kernel_rfl) v xT w
theorem noUnwrap_k (v : Value) (xT : TypeId) (w : World) : (Instr.typeAssert (.iface 34 v) xT 96 true).run Tryz.prog w = .ok (.tuple #[.nilIface, .bool false]) w := run_typeAssert_lacksB Tryz.underlying96 (by kernel_rfl) (by kernel_rfl) v xT w
theorem noUnwraps_k (v : Value) (xT : TypeId) (w : World) : (Instr.typeAssert (.iface 34 v) xT 98 true).run Tryz.prog w = .ok (.tuple #[.nilIface, .bool false]) w := run_typeAssert_lacksB Tryz.underlying98 (by kernel_rfl) (by kernel_rfl) v xT w
theorem noIs_f (v : Value) (xT : TypeId) (w : World) : (Instr.typeAssert (.iface 69 v) xT 93 true).run Tryz.prog w = .ok (.tuple #[.nilIface, .bool false]) w := run_typeAssert_lacksB Tryz.underlying93 (by kernel_rfl) (by kernel_rfl) v xT w
theorem hasUnwrap_f (v : Value) (xT : TypeId) (w : World) : (Instr.typeAssert (.iface 69 v) xT 96 true).run Tryz.prog w = .ok (.tuple #[.iface 69 v, .bool true]) w := run_typeAssert_hasB Tryz.underlying96 (by kernel_rfl) v xT w
theorem kindEq_in (a b : Int) (w : World) (fuel : Nat) :
    (Op.equalIn (fuel + 2) 28 (.iface 34 (.int .i64 a)) (.iface 34 (.int .i64 b))).run Tryz.prog w = .ok (a == b) w := by
  have hi := Tryz.underlying28
  have hn : Tryz.prog.underlying 34 = some (.int .i64) := by kernel_rfl
  have hc : (Tryz.prog.info? 34).map TypeInfo.comparable = some true := by kernel_rfl
  obtain ⟨i, hinfo, hcomp⟩ := Option.map_eq_some_iff.1 hc
  simp [Op.equalIn, run_underlying hi, run_underlying hn, typeInfo, hinfo, hcomp]
theorem kindEq (a b : Int) (w : World) :
    (binOp .eql 28 (.iface 34 (.int .i64 a)) (.iface 34 (.int .i64 b))).run Tryz.prog w = .ok (.bool (a == b)) w := by
  have h := kindEq_in a b w 9998
  simp only [binOp]
  simp [Op.equal, Op.maxDepth, h]
theorem is_nil (k : Int) (w : World) :
    Calls Tryz.prog 9 #[.nilIface, .iface 34 (.int .i64 k)] w fun e w' => e = .returned (.bool false) ∧ w' = w := by
  have hn := run_eql_iface_nil_left (P := Tryz.prog) w 34 (.int .i64 k) Tryz.underlying28
  go_enter Tryz.func9, Tryz.ntmps9
  go_wp2
  go_ret
  exact ⟨rfl, rfl⟩
set_option maxHeartbeats 2000000 in
theorem is_fault (q : Nat) (a k : Int) (w : World) (h0 : w.cell? ⟨q, 0, none⟩ = some (.int .i64 a)) :
    Calls Tryz.prog 9 #[.iface 69 (.pointer (some ⟨q, 0, none⟩)), .iface 34 (.int .i64 k)] w fun e w' => e = .returned (.bool (a == k)) ∧ w' = w := by
  have x1 := @run_callFunc_extern Tryz.prog 20 _ ReflectliteType.typeOf Tryz.func20 (by kernel_rfl) (by kernel_rfl) (by kernel_rfl) (by kernel_rfl)
  have x2 := call_comp
  have y1 := typeOf_k
  have y3 := m_comp
  have y4 := m_unwrap
  have y5 := noIs_k
  have y6 := noUnwrap_k
  have y7 := noUnwraps_k
  have y8 := noIs_f
  have y9 := hasUnwrap_f
  have heq := kindEq a k w
  have hty := run_eql_iface_types (P := Tryz.prog) 69 34 (.pointer (some ⟨q, 0, none⟩)) (.int .i64 k) Tryz.underlying28 (by decide) w
  by_cases hak : a = k
  · have e : (a == k) = true := by simpa using hak
    rw [e] at heq ⊢
    clear e hak
    go_enter Tryz.func9, Tryz.ntmps9
    go_wp2
    refine wp_loop_rounds 2 ?_
    rw [rounds_succ]
    go_wp2
    rw [rounds_succ]
    go_wp2
    go_ret
    exact ⟨rfl, rfl⟩
  · have e : (a == k) = false := by simpa using hak
    rw [e] at heq ⊢
    clear e hak
    go_enter Tryz.func9, Tryz.ntmps9
    go_wp2
    refine wp_loop_rounds 2 ?_
    rw [rounds_succ]
    go_wp2
    rw [rounds_succ]
    go_wp2
    go_ret
    exact ⟨rfl, rfl⟩
end Go.Proofs.YtmofaleglnihaaaGreatDoor

namespace Go.Proofs.YtmofaleglnihaaaGreatDoor
open Go.ChangeShapes Go.WideShapes Go.ChangeAt Go.RowKit
set_option linter.unusedVariables false
set_option linter.unusedSimpArgs false

set_option maxHeartbeats 2000000 in
theorem asks_any (s : ByteArray) (w : World) (m : Int) (hs63 : s.size ≤ 4611686018427387904) (hm : w.cell? ⟨1, 0, none⟩ = some (.int .i64 m))
    (hg : w.cell? ⟨0, 0, none⟩ = some (.iface 91 (.agg #[.pointer (some ⟨7, 28, none⟩)]))) :
    Calls Tryz.prog 4 #[.string s] w fun e w' => e = .returned (.bool true) ∧ Below w.heap.size w w' := by
  have Hm : Hid _ := hm
  have Hg : Hid _ := hg
  clear hm hg
  go_enter Tryz.func4, Tryz.ntmps4
  go_wp2_with fail
  refine (parse_any s _ m hs63 Hm.out Hg.out).mono ?_
  rintro e w1 (⟨h0, d, q, rfl, d1, d2, d3, hsh, hB1⟩ | ⟨h0, q, rfl, q1, q2, q3, hB1⟩)
  · have HB1 : Hid (Below w.heap.size w w1) := hB1
    have hz1 := hB1.size
    have H0 : Hid ((rread s).1.e = 0) := h0
    clear d1 d2 d3 hsh hB1 h0
    go_wp2_with fail
    refine (read_all s _ hs63).mono ?_
    rintro e w3 ⟨it, cs, rfl, hrd, hits, hB3⟩
    have HB3 : Hid (Below w.heap.size w w3) := HB1.out.trans (hB3.mono hz1)
    have hE3 : w3.cell? ⟨w1.heap.size, 2, none⟩ = some (.int .i64 0) := by
      have := hrd.E
      rw [H0.out] at this
      exact this
    clear hrd hits hB3
    go_wp2_with fail
    go_loopw [6] (fun i wr => ∃ k : Nat, 1 ≤ k ∧ k ≤ 11 ∧ i = .int .i64 k ∧ ∃ n, wr = w3.drewN n) (fun i _ => 11 - (intOf i).toNat)
    case atStart => exact ⟨1, by decide, by decide, rfl, 0, rfl⟩
    case round =>
      obtain ⟨k, hk1, hk2, rfl, n, rfl⟩ := hrel
      by_cases hk : k ≤ 10
      · have td : decide (k ≤ 10) = true := by simpa using hk
        have td' : decide ((k : Int) ≤ 10) = true := by simp; omega
        have tz : ((k : Int) == 0) = false := by simp; omega
        go_wp2_with fail
        go_region_with (go_at_call 9; refine (is_nil k _).mono ?_; rintro e w4 ⟨rfl, rfl⟩)
        all_goals
          go_wp2_with fail
          go_roundw
          case rel => exact ⟨k + 1, by omega, by omega, by go_num, _, rfl⟩
          case measure => simp [intOf]; omega
      · have td : decide (k ≤ 10) = false := by simpa using hk
        have td' : decide ((k : Int) ≤ 10) = false := by simp; omega
        go_wp2_with fail
        go_ret
        exact ⟨rfl, HB3.out.trans ⟨rfl, rfl, rfl, Nat.le_refl _, fun _ _ => rfl⟩⟩
  · have HB1 : Hid (Below w.heap.size w w1) := hB1
    have hz1 := hB1.size
    have H0 : Hid ((rread s).1.e ≠ 0) := h0
    have H2 : Hid (w1.cell? ⟨q, 0, none⟩ = some (.int .i64 (rread s).1.e)) := q2
    have Hq : Hid (q < w1.heap.size) := q1
    clear q1 q2 q3 hB1 h0
    go_wp2_with fail
    refine (read_all s _ hs63).mono ?_
    rintro e w3 ⟨it, cs, rfl, hrd, hits, hB3⟩
    have HB3 : Hid (Below w.heap.size w w3) := HB1.out.trans (hB3.mono hz1)
    have H3 : Hid (w3.cell? ⟨q, 0, none⟩ = some (.int .i64 (rread s).1.e)) := by
      unfold Hid
      rw [hB3.cell (p := ⟨q, 0, none⟩) Hq.out]
      exact H2.out
    have hE3 := hrd.E
    have te0 : (((rread s).1.e : Int) != 0) = true := by have := H0.out; simp; omega
    clear hrd hits hB3 H2 H0
    generalize (rread s).1.e = E at *
    go_wp2_with fail
    go_loopw [6] (fun i wr => ∃ k : Nat, 1 ≤ k ∧ k ≤ 11 ∧ i = .int .i64 k ∧ ∃ n, wr = w3.drewN n) (fun i _ => 11 - (intOf i).toNat)
    case atStart => exact ⟨1, by decide, by decide, rfl, 0, rfl⟩
    case round =>
      obtain ⟨k, hk1, hk2, rfl, n, rfl⟩ := hrel
      by_cases hk : k ≤ 10
      · have td : decide (k ≤ 10) = true := by simpa using hk
        have td' : decide ((k : Int) ≤ 10) = true := by simp; omega
        by_cases hek : E = k
        · have t1 : ((E : Int) == (k : Int)) = true := by simp; omega
          have t2 : ((k : Int) == (E : Int)) = true := by simp; omega
          clear hek
          go_wp2_with fail
          go_region_with (go_at_call 9; refine (is_fault q E k _ ?_).mono ?_; (· exact H3.out); rintro e w4 ⟨rfl, rfl⟩; rw [t1])
          all_goals
            go_wp2_with fail
            go_roundw
            case rel => exact ⟨k + 1, by omega, by omega, by go_num, _, rfl⟩
            case measure => simp [intOf]; omega
        · have t1 : ((E : Int) == (k : Int)) = false := by simp; omega
          have t2 : ((k : Int) == (E : Int)) = false := by simp; omega
          clear hek
          go_wp2_with fail
          go_region_with (go_at_call 9; refine (is_fault q E k _ ?_).mono ?_; (· exact H3.out); rintro e w4 ⟨rfl, rfl⟩; rw [t1])
          all_goals
            go_wp2_with fail
            go_roundw
            case rel => exact ⟨k + 1, by omega, by omega, by go_num, _, rfl⟩
            case measure => simp [intOf]; omega
      · have td : decide (k ≤ 10) = false := by simpa using hk
        have td' : decide ((k : Int) ≤ 10) = false := by simp; omega
        go_wp2_with fail
        go_ret
        exact ⟨rfl, HB3.out.trans ⟨rfl, rfl, rfl, Nat.le_refl _, fun _ _ => rfl⟩⟩
end Go.Proofs.YtmofaleglnihaaaGreatDoor

namespace Go.Proofs.YtmofaleglnihaaaGreatDoor
open Go.ChangeShapes Go.WideShapes Go.ChangeAt Go.ChangeMaps Go.RowKit
set_option linter.unusedVariables false
set_option linter.unusedSimpArgs false

theorem Tryz.own : ownKnob Tryz.prog.godebug = none := by kernel_rfl
theorem et_at : Tryz.prog.globalNamed "errors.errorType" = some 0 := by kernel_rfl
theorem rt_at : (Tryz.prog.cutTypes.find? (·.1 == "internal/reflectlite.rtype")).map (·.2) = some 91 := by kernel_rfl
theorem one_error : ((List.range 259).filter fun t => Tryz.prog.rowNamed t [101, 114, 114, 111, 114]) = [28] := by kernel_rfl
theorem types_size : Tryz.prog.types.size = 259 := by kernel_rfl
/-- What the three rows list. -/
def theLaid : List (String × DataW Unit) := [("unicode/utf8.acceptRanges", Rows.laid_unicode_utf8_acceptRanges), ("errors.errorType", Rows.laid_errors_errorType), ("unicode/utf8.first", Rows.laid_unicode_utf8_first)]
def theData : List (String × DataW Unit) := [("unicode/utf8.acceptRanges", Rows.laid_unicode_utf8_acceptRanges), ("unicode/utf8.first", Rows.laid_unicode_utf8_first)]

theorem handle_of_laid {W : World} (h : laidMetH Tryz.prog theLaid W) : W.cell? ⟨0, 0, none⟩ = some (.iface 91 (.agg #[.pointer (some ⟨7, 28, none⟩)])) := by
  have h' : laidMet Tryz.prog theData W ∧ handlesMet Tryz.prog [("errors.errorType", Rows.laid_errors_errorType)] W := h
  obtain ⟨name, u, ty, e1, e2, e3, e4, e5⟩ := h'.2 _ (List.mem_singleton.2 rfl)
  have en : name = [101, 114, 114, 111, 114] := (Option.some.inj e1).symm
  subst en
  obtain rfl := Option.some.inj (rt_at.symm.trans e2)
  have hm : ty ∈ (List.range 259).filter fun t => Tryz.prog.rowNamed t [101, 114, 114, 111, 114] := List.mem_filter.2 ⟨List.mem_range.2 (by rw [← types_size]; exact e3), e4⟩
  rw [one_error] at hm
  obtain rfl := List.mem_singleton.1 hm
  have hh : typeHandle Tryz.prog 28 = .pointer (some ⟨7, 28, none⟩) := by kernel_rfl
  rw [hh] at e5
  simpa using World.var?_cell et_at e5 0
theorem maxLen_of_shape {W : World} (h : W.ShapedOpen Tryz.prog) : ∃ m, W.cell? ⟨1, 0, none⟩ = some (.int .i64 m) :=
  cell_of_shapedOpen_int (zero := #[.int .i64 0]) (t := 3) h (of_decide_eq_true (by kernel_rfl)) (by kernel_rfl) rfl (by kernel_rfl) (by kernel_rfl) Tryz.underlying3

/-- The one handle laid into a world (over the tables laid, 'World.laidAll': a world that meets the condition). -/
def withHandle (w0 : World) : World :=
  { w0 with heap := w0.heap.modify 0 fun
      | .cells _ t frozen => .cells #[.iface 91 (.agg #[.pointer (some ⟨7, 28, none⟩)])] t frozen
      | o => o }
theorem laidWorld_os (os : Os) : (withHandle (World.laidAll Tryz.prog os theData)).os = os := by
  unfold withHandle
  dsimp only
  exact World.laidAll_os _ _ _
theorem laidWorld_met (os : Os) (args : Array Value) : laidMetH Tryz.prog theLaid ((withHandle (World.laidAll Tryz.prog os theData)).forCall (fun _ _ => 0) ⟨#[], args, []⟩).memory :=
  laidMetH_of_parts (laidMet_of_run' 8 (by kernel_rfl) (by kernel_rfl)) (by kernel_rfl)

/-- The wrap that keeps both: what is listed, and the world's shape. -/
theorem handed_both {H : Type} {enc : TypeId × Value → H} {a : Assume} {C : Checked} {os : Os} {f : FuncId} {fn : Func} {s : ChangeSpec} {conds : List PathCond} {apart fresh handsOn again : Bool} {X : World → Array Value → Prop}
    (hX : ∀ (w w' : World) (args : Array Value), w.heap = w'.heap → X w args → X w' args)
    (own : ownKnob C.prog.godebug = none) (started : os.Started) (noInit : C.prog.inits.idxOf? f = none) (hfn : C.prog.funcs[f]? = some fn)
    (witness : ∃ (w : World) (tape : Tape) (i : Input), w.os = os ∧ (w.forCall tape i).Shaped C.prog ∧ i.vars = [] ∧ Input.okWide C.prog (w.forCall tape i) .any w.heap.size f i ∧
      ((s.pre enc C.prog fn conds apart (w.forCall tape i).memory i.args ∧ X (w.forCall tape i).memory i.args) ∧ sizedMet enc C.prog fn (OpenSpec.ofChange s) apart (w.forCall tape i).memory i.args) ∧ a.holds C.prog (lone (Frame.enter C.prog f i.args .normal) [] (w.forCall tape i)))
    (contract : ∀ (W : World) (base : Nat) (args : Array Value) (ds gs : List (DataW H)) (before : List MemPlace),
      (∀ (j : Nat) t v, fn.params[j]? = some t → args[j]? = some v → Value.okWide C.prog W .any base t v) →
      DataW.Whole enc C.prog fn.params.toList s.vars apart W args.toList ds gs before →
      (DataW.weightsEach C.prog (fn.params.toList ++ s.plain.varTypes C.prog) (ds ++ gs)).all (· ≤ reachBytes) = true → X W args → W.ShapedOpen C.prog →
      Calls C.prog f args W fun e W' => ∃ v, e = .returned v ∧ s.post enc C.prog fn apart fresh handsOn again W args v W') :
    ReturnsInHanded a C os f .any (fun w args => (s.pre enc C.prog fn conds apart w args ∧ X w args) ∧ sizedMet enc C.prog fn (OpenSpec.ofChange s) apart w args) (s.post enc C.prog fn apart fresh handsOn again) := by
  refine returnsInHanded_of_calls own started noInit witness ?_
  intro w tape i _ hsh _ hok hpre hholds
  obtain ⟨_, _, _, fn', hfn', _, _, _, _, hval⟩ := hok
  obtain rfl : fn' = fn := Option.some.inj (hfn'.symm.trans hfn)
  obtain ⟨⟨⟨ds, gs, before, hw, hc⟩, hx⟩, hz⟩ := hpre
  have hw' := DataW.Whole.of_heap (w' := w.forCall tape i) (by rfl) hw
  refine (contract (w.forCall tape i) w.heap.size i.args ds gs before hval hw' (hz.weights hw) (hX _ _ _ (by rfl) hx) hsh).mono fun e W' ⟨v, he, hp⟩ => ?_
  subst he
  exact ChangeSpec.post_blind hp

set_option maxRecDepth 100000 in
theorem parses_lifted (os : Os) (started : os.Started) (H : Type) (enc : TypeId × Value → H) :
    ReturnsInHanded {} Tryz.checked os 3 .any (fun w args => (Rows.parsesSpec.pre enc Tryz.prog Tryz.f3 [] false w args ∧ laidMetH Tryz.prog theLaid w) ∧ sizedMet enc Tryz.prog Tryz.f3 (OpenSpec.ofChange Rows.parsesSpec) false w args)
      (Rows.parsesSpec.post enc Tryz.prog Tryz.f3 false true false false) := by
  refine handed_both (C := Tryz.checked) (X := fun w _ => laidMetH Tryz.prog theLaid w) (fun _ _ _ hh h => h.of_heap hh) Tryz.own started (by kernel_rfl) Tryz.func3
    (ChangeSpec.witness_shaped (enc := enc) (C := Tryz.checked) (os := os) (X := fun w _ => laidMetH Tryz.prog theLaid w) false (withHandle (World.laidAll Tryz.prog os theData)) #[.string ⟨#[]⟩] 8 (laidWorld_os os) (World.shaped_of_ZipB (by kernel_rfl) (by kernel_rfl)) (by kernel_rfl) (by kernel_rfl) (by kernel_rfl) (laidWorld_met os _)) ?_
  intro W base args ds gs before hval0 hW hwt hL hsh
  have hval : ∀ (j : Nat) t v, Tryz.f3.params[j]? = some t → args[j]? = some v → Value.okWide Tryz.prog W .any base t v := hval0
  have hW' := hW
  obtain ⟨p, q, hA0, hV, rfl, _, _⟩ := hW
  have hA : DataW.TrodAll enc Tryz.prog W 0 (fun _ => true) true Tryz.f3.params.toList args.toList ds p := hA0
  rw [Tryz.params3] at hA hval
  obtain ⟨v0, d0, rfl, rfl, h0⟩ := trodAll_one hA
  obtain ⟨rfl, rfl⟩ := trodVars_none hV
  obtain ⟨s, rfl, rfl, rfl, ws⟩ := open_string Tryz.underlying9 (hval 0 9 v0 rfl rfl) h0
  simp only [List.append_nil] at hW'
  obtain ⟨m, hm⟩ := maxLen_of_shape hsh
  have hs : s.size ≤ 4611686018427387904 := by
    have h1 := sized_string hwt (j := 0) (t := 9) (bytes := s.data.toList) rfl rfl
    have h2 : s.data.toList.length = s.size := Array.length_toList
    have h3 := reachBytes_lt
    omega
  refine (parses_any s W m hs hm (handle_of_laid hL)).mono fun e W' ⟨he, hb⟩ => ?_
  subst he
  exact ⟨_, rfl, _, _, _, [], [], [], hW', trodAll_mk1 (shut_bool Tryz.underlying4 _), trodAll_mk1 (shut_string Tryz.underlying9 ws), rfl, hb.frame _, fun h => by cases h⟩
theorem parses_row : Rows.ParsesSaid :=
  OpenClaim.holds_of_wide 3 Tryz.f3 rfl rfl rfl rfl rfl rfl rfl ⟨rfl, rfl, rfl, rfl, rfl⟩ rfl rfl rfl rfl rfl (by kernel_rfl) Tryz.func3 (by kernel_rfl)
    (of_decide_eq_true (by kernel_rfl)) (by unfold Func.isWrapper; rw [if_neg (of_decide_eq_false (by kernel_rfl))]; exact ⟨rfl, rfl⟩)
    (fun os started H enc _ => parses_lifted os started H enc)
end Go.Proofs.YtmofaleglnihaaaGreatDoor

namespace Go.Proofs.YtmofaleglnihaaaGreatDoor
open Go.ChangeShapes Go.WideShapes Go.ChangeAt Go.ChangeMaps Go.RowKit
set_option linter.unusedVariables false
set_option linter.unusedSimpArgs false

set_option maxRecDepth 100000 in
theorem asks_lifted (os : Os) (started : os.Started) (H : Type) (enc : TypeId × Value → H) :
    ReturnsInHanded {} Tryz.checked os 4 .any (fun w args => (Rows.asksSpec.pre enc Tryz.prog Tryz.f4 [] false w args ∧ laidMetH Tryz.prog theLaid w) ∧ sizedMet enc Tryz.prog Tryz.f4 (OpenSpec.ofChange Rows.asksSpec) false w args)
      (Rows.asksSpec.post enc Tryz.prog Tryz.f4 false true false false) := by
  refine handed_both (C := Tryz.checked) (X := fun w _ => laidMetH Tryz.prog theLaid w) (fun _ _ _ hh h => h.of_heap hh) Tryz.own started (by kernel_rfl) Tryz.func4
    (ChangeSpec.witness_shaped (enc := enc) (C := Tryz.checked) (os := os) (X := fun w _ => laidMetH Tryz.prog theLaid w) false (withHandle (World.laidAll Tryz.prog os theData)) #[.string ⟨#[]⟩] 8 (laidWorld_os os) (World.shaped_of_ZipB (by kernel_rfl) (by kernel_rfl)) (by kernel_rfl) (by kernel_rfl) (by kernel_rfl) (laidWorld_met os _)) ?_
  intro W base args ds gs before hval0 hW hwt hL hsh
  have hval : ∀ (j : Nat) t v, Tryz.f4.params[j]? = some t → args[j]? = some v → Value.okWide Tryz.prog W .any base t v := hval0
  have hW' := hW
  obtain ⟨p, q, hA0, hV, rfl, _, _⟩ := hW
  have hA : DataW.TrodAll enc Tryz.prog W 0 (fun _ => true) true Tryz.f4.params.toList args.toList ds p := hA0
  rw [Tryz.params4] at hA hval
  obtain ⟨v0, d0, rfl, rfl, h0⟩ := trodAll_one hA
  obtain ⟨rfl, rfl⟩ := trodVars_none hV
  obtain ⟨s, rfl, rfl, rfl, ws⟩ := open_string Tryz.underlying9 (hval 0 9 v0 rfl rfl) h0
  simp only [List.append_nil] at hW'
  obtain ⟨m, hm⟩ := maxLen_of_shape hsh
  have hs : s.size ≤ 4611686018427387904 := by
    have h1 := sized_string hwt (j := 0) (t := 9) (bytes := s.data.toList) rfl rfl
    have h2 : s.data.toList.length = s.size := Array.length_toList
    have h3 := reachBytes_lt
    omega
  refine (asks_any s W m hs hm (handle_of_laid hL)).mono fun e W' ⟨he, hb⟩ => ?_
  subst he
  exact ⟨_, rfl, _, _, _, [], [], [], hW', trodAll_mk1 (shut_bool Tryz.underlying4 _), trodAll_mk1 (shut_string Tryz.underlying9 ws), rfl, hb.frame _, fun h => by cases h⟩
theorem asks_row : Rows.AsksSaid :=
  OpenClaim.holds_of_wide 4 Tryz.f4 rfl rfl rfl rfl rfl rfl rfl ⟨rfl, rfl, rfl, rfl, rfl⟩ rfl rfl rfl rfl rfl (by kernel_rfl) Tryz.func4 (by kernel_rfl)
    (of_decide_eq_true (by kernel_rfl)) (by unfold Func.isWrapper; rw [if_neg (of_decide_eq_false (by kernel_rfl))]; exact ⟨rfl, rfl⟩)
    (fun os started H enc _ => asks_lifted os started H enc)

theorem asks_holds : Rows.AsksCardSaid :=
  Claim7.holds_tied_plain_at .later [] [.data, .handle, .pinned] true (true, "d547648cab9d235a608337e7237a9932eca36e1cc4a9fbef28c82993d2da8717") true asks_row (fun _ h => by cases h) (by kernel_rfl) (fun _ h => by cases h) asks_row_tie rfl ⟨rfl, rfl⟩ (by kernel_rfl) rfl
    (fun f fn hf hfn => by
      obtain rfl : f = 4 := Option.some.inj ((show Tryz.prog.funcNamed "hem/hemlaw.Asks" = some 4 by kernel_rfl).symm.trans hf) |>.symm
      obtain rfl : fn = Tryz.f4 := (Option.some.inj (Tryz.func4.symm.trans hfn)).symm
      exact ⟨by kernel_rfl, fun j t ht => by
        rw [Tryz.params4] at ht
        have hm : t ∈ [9] := by simpa using Array.mem_of_getElem? ht
        have hall : ([9].all fun u => !Tryz.prog.wantsStandIn u) = true := by kernel_rfl
        exact (show Tryz.prog.wantsStandIn t = false by simpa using List.all_eq_true.1 hall t hm)⟩)
    (by kernel_rfl)
end Go.Proofs.YtmofaleglnihaaaGreatDoor
