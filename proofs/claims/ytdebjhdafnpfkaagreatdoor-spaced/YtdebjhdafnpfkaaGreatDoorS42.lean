import Derived.Test.YtdebjhdafnpfkaaGreatDoorS20
import Derived.Test.YtdebjhdafnpfkaaGreatDoorS41
import Derived.Carry
import Derived.ChangeSlices
import Derived.Test.YtdebjhdafnpfkaaGreatDoorTie
import Derived.Test.YtdebjhdafnpfkaaGreatDoorCards
import Derived.SevenTiedAt
namespace Go.Proofs.YtdebjhdafnpfkaaGreatDoor
open Go.ChangeShapes Go.WideShapes Go.ChangeAt Go.ChangeMaps Go.RowKit
set_option linter.unusedVariables false
set_option linter.unusedSimpArgs false
theorem Tryz.laidOut : laidOutB Tryz.prog = true := by kernel_rfl
theorem u64_nat {n : Int} (h : IntKind.u64.has n) : 0 ≤ n := by
  unfold IntKind.has at h
  exact h.1
set_option maxRecDepth 100000 in
/-- The table of powers of ten holds some numbers. -/
theorem tab_of_shape {W : World} (h : W.ShapedOpen Tryz.prog) : ∃ T, TabW T W := by
  obtain ⟨cs, hh, hs, hr⟩ := h.1 4 (Array.replicate 20 (.int .u64 0)) 286 (of_decide_eq_true (by kernel_rfl)) (by kernel_rfl)
  have hs20 : cs.size = 20 := hs.trans (by simp)
  obtain ⟨ts, hts, _, hall⟩ := hr (by kernel_rfl)
  have hc : Tryz.prog.cellTypes Tryz.prog.depth 286 = some (List.replicate 20 215) := by kernel_rfl
  obtain rfl : List.replicate 20 215 = ts := Option.some.inj (hc.symm.trans hts)
  have each : ∀ i, i < 20 → ∃ n : Nat, W.cell? ⟨4, i, none⟩ = some (.int .u64 n) := by
    intro i hi
    obtain ⟨u, hu, hok⟩ := hall i (cs[i]'(by omega)) (by simp [hs20, hi])
    have hu' : u = 215 := by
      have hm := List.mem_of_getElem? hu
      exact (List.mem_replicate.1 hm).2
    subst hu'
    have hcell : W.cell? ⟨4, i, none⟩ = some (cs[i]'(by omega)) := by simp [World.cell?, hh, hs20, hi]
    rw [hcell]
    unfold Cell.ok at hok
    rw [Tryz.underlying215] at hok
    cases hv : cs[i]'(by omega) <;> rw [hv] at hok <;> simp at hok
    case int k n =>
      obtain ⟨rfl, hn⟩ := hok
      have := u64_nat hn
      exact ⟨n.toNat, by rw [show ((n.toNat : Nat) : Int) = n by omega]⟩
  exact ⟨fun i => if h : i < 20 then (each i h).choose else 0, fun i hi => by
    have := (each i hi).choose_spec
    simp only [hi, dite_true]
    exact this⟩
theorem i64_rng {n : Int} (h : (Lit.int .i64 n).wf = true) : -9223372036854775808 ≤ n ∧ n ≤ 9223372036854775807 := by
  unfold Lit.wf at h
  rw [Bool.and_eq_true, decide_eq_true_eq, decide_eq_true_eq] at h
  have e1 : IntKind.i64.min = -9223372036854775808 := by decide
  have e2 : IntKind.i64.max = 9223372036854775807 := by decide
  omega
theorem wok_of {W : World} (hL : laidMetH Tryz.prog theLaid W) (hsh : W.ShapedOpen Tryz.prog) : ∃ T m, WOk T m W := by
  obtain ⟨m, hm⟩ := maxLen_of_shape hsh
  obtain ⟨T, hT⟩ := tab_of_shape hsh
  exact ⟨T, m, hm, handle_of_laid hL, hT⟩
set_option maxRecDepth 100000 in
/-- A slice of ints that came in. -/
theorem raw_of {H : Type} {enc : TypeId × Value → H} {W : World} {base : Nat} {v : Value} {d : DataW H} {p : List MemPlace} (hv : Value.okWide Tryz.prog W .any base 49 v) (h : DataW.Trod enc Tryz.prog W 0 (fun _ => true) true 49 v d p) :
    ∃ raw : List Int, SubRow W v raw.length (raw.map (Value.int .i64 ·)) ∧ (∀ x ∈ raw, -9223372036854775808 ≤ x ∧ x ≤ 9223372036854775807) ∧ raw.length ≤ 9223372036854775807 := by
  obtain ⟨a0, len0, cap0, rfl⟩ := okWide_slice Tryz.underlying49 hv
  obtain ⟨fuel, hf⟩ := h
  rcases open_ints Tryz.underlying49 Tryz.underlying3 (by kernel_rfl) hf with ⟨hcs, _⟩ | ⟨x, l, c, zs, hcs, _, hl, hm, hz, _, hcell, hwz⟩
  · simp [Value.cells] at hcs
    obtain ⟨rfl, rfl, rfl⟩ := hcs
    exact ⟨[], ⟨rfl, ⟨none, 0, rfl⟩, fun k v hk => by simp at hk⟩, fun x hx => (by cases hx), by decide⟩
  · simp [Value.cells] at hcs
    obtain ⟨rfl, rfl, rfl⟩ := hcs
    have hz' : zs.length = cap0 := by simpa using hz
    unfold maxLen at hm
    have hlen : (zs.take len0).length = len0 := by rw [List.length_take]; omega
    refine ⟨zs.take len0, ⟨by simp, ⟨some x, cap0, by rw [hlen]⟩, fun k v hk => ?_⟩, fun n hn => i64_rng (hwz n (List.mem_of_mem_take hn)), by omega⟩
    rw [List.getElem?_map] at hk
    cases hy : (zs.take len0)[k]? with
    | none => rw [hy] at hk; cases hk
    | some y =>
      rw [hy] at hk
      simp only [Option.map_some, Option.some.injEq] at hk
      subst hk
      have hk1 : k < (zs.take len0).length := (List.getElem?_eq_some_iff.1 hy).1
      have hkl : k < len0 := by omega
      have hc := hcell k (by omega)
      obtain ⟨b, off, spot⟩ := x
      have hspot : spot = none := by simpa [Addr.add] using World.cell?_spot (hcell 0 (by omega))
      subst hspot
      have hy2 : zs[k]? = some y := by rw [List.getElem?_take] at hy; simpa [hkl] using hy
      have e : zs.getD k 0 = y := by simp [List.getD, hy2]
      rw [e] at hc
      have ha : (⟨b, off, none⟩ : Addr).add k = ⟨b, off + k, none⟩ := by
        by_cases hk0 : k = 0
        · subst hk0; rfl
        · simp [Addr.add, hk0]
      have hc' : W.cell? ⟨b, off + k, none⟩ = some (.int .i64 y) := by rw [← ha]; exact hc
      exact ⟨some ⟨b, off, none⟩, cap0, b, off, by rw [hlen], rfl, lt_of_cell hc', hc'⟩
end Go.Proofs.YtdebjhdafnpfkaaGreatDoor

namespace Go.Proofs.YtdebjhdafnpfkaaGreatDoor
open Go.ChangeShapes Go.WideShapes Go.ChangeAt Go.ChangeMaps Go.RowKit
set_option linter.unusedVariables false
set_option linter.unusedSimpArgs false
set_option maxRecDepth 100000 in
theorem spaced_lifted (os : Os) (started : os.Started) (H : Type) (enc : TypeId × Value → H) :
    ReturnsInHanded {} Tryz.checked os 8 .any (fun w args => (Rows.spacedSpec.pre enc Tryz.prog Tryz.f8 [] false w args ∧ laidMetH Tryz.prog theLaid w) ∧ sizedMet enc Tryz.prog Tryz.f8 (OpenSpec.ofChange Rows.spacedSpec) false w args)
      (Rows.spacedSpec.post enc Tryz.prog Tryz.f8 false true false false) := by
  refine handed_both (C := Tryz.checked) (X := fun w _ => laidMetH Tryz.prog theLaid w) (fun _ _ _ hh h => h.of_heap hh) Tryz.own started (by kernel_rfl) Tryz.func8
    (ChangeSpec.witness_shaped (enc := enc) (C := Tryz.checked) (os := os) (X := fun w _ => laidMetH Tryz.prog theLaid w) false (withHandle (World.laidAll Tryz.prog os theData)) #[.slice none 0 0, .int .i64 0] 8 (laidWorld_os os) (World.shaped_of_ZipB (by kernel_rfl) (by kernel_rfl)) (by kernel_rfl) (by kernel_rfl) (by kernel_rfl) (laidWorld_met os _)) ?_
  intro W base args ds gs before hval0 hW hwt hL hsh
  have hval : ∀ (j : Nat) t v, Tryz.f8.params[j]? = some t → args[j]? = some v → Value.okWide Tryz.prog W .any base t v := hval0
  have hW' := hW
  obtain ⟨p, q, hA0, hV, rfl, _, _⟩ := hW
  have hA : DataW.TrodAll enc Tryz.prog W 0 (fun _ => true) true Tryz.f8.params.toList args.toList ds p := hA0
  rw [Tryz.params8] at hA hval
  obtain ⟨v0, vs0, d0, ds0, p0, q0, hargs, rfl, rfl, h0, r0⟩ := trodAll_cons hA
  obtain ⟨v1, vs1, d1, ds1, p1, q1, rfl, rfl, rfl, h1, r1⟩ := trodAll_cons r0
  obtain ⟨rfl, rfl, rfl⟩ := trodAll_nil r1
  obtain rfl : args = #[v0, v1] := by cases args; simp_all
  obtain ⟨rfl, rfl⟩ := trodVars_none hV
  have k0 := h0
  have lt0 : ∀ x ∈ p0, x.block < W.heap.size := by obtain ⟨m, hm⟩ := k0; exact DataW.trod_lt m _ _ _ hm
  obtain ⟨raw, hs, hr, hlen⟩ := raw_of (hval 0 49 v0 rfl rfl) h0
  obtain ⟨a1, rfl, rfl, rfl, w1⟩ := open_int Tryz.underlying3 (hval 1 3 v1 rfl rfl) h1
  obtain ⟨T, m, hw⟩ := wok_of hL hsh
  clear hA0 hval0
  refine (spaced_law raw v0 a1 T m W hw hs hr hlen (i64_rng w1).1 (i64_rng w1).2).mono fun e W' ⟨he, hb⟩ => ?_
  subst he
  exact ⟨_, rfl, _, _, _, [], _, [], hW', trodAll_mk1 (shut_bool Tryz.underlying4 _), (trodAll_cons_mk (Below.trod Tryz.laidOut (by kernel_rfl) (of_decide_eq_true (by kernel_rfl)) k0 hb lt0) (trodAll_cons_mk (shut_int Tryz.underlying3 w1) trodAll_mk0)), rfl, hb.frame _, fun h => by cases h⟩
theorem spaced_row : Rows.SpacedSaid :=
  OpenClaim.holds_of_wide 8 Tryz.f8 rfl rfl rfl rfl rfl rfl rfl ⟨rfl, rfl, rfl, rfl, rfl⟩ rfl rfl rfl rfl rfl (by kernel_rfl) Tryz.func8 (by kernel_rfl)
    (of_decide_eq_true (by kernel_rfl)) (by unfold Func.isWrapper; rw [if_neg (of_decide_eq_false (by kernel_rfl))]; exact ⟨rfl, rfl⟩)
    (fun os started H enc _ => spaced_lifted os started H enc)
theorem spaced_holds : Rows.SpacedCardSaid :=
  Claim7.holds_tied_plain_at .later [] [.data, .handle, .pinned] true (true, "6be3ddb04e93f81475ddec5d186431647b4d5db122d404762c467cab1b275509") true spaced_row (fun _ h => by cases h) (by kernel_rfl) (fun _ h => by cases h) spaced_row_tie rfl ⟨rfl, rfl⟩ (by kernel_rfl) rfl
    (fun f fn hf hfn => by
      obtain rfl : f = 8 := Option.some.inj ((show Tryz.prog.funcNamed "hem/hemkeep.Spaced" = some 8 by kernel_rfl).symm.trans hf) |>.symm
      obtain rfl : fn = Tryz.f8 := (Option.some.inj (Tryz.func8.symm.trans hfn)).symm
      exact ⟨by kernel_rfl, fun j t ht => by
        rw [Tryz.params8] at ht
        have hm : t ∈ [49, 3] := by simpa using Array.mem_of_getElem? ht
        have hall : ([49, 3].all fun u => !Tryz.prog.wantsStandIn u) = true := by kernel_rfl
        exact (show Tryz.prog.wantsStandIn t = false by simpa using List.all_eq_true.1 hall t hm)⟩)
    (by kernel_rfl)
end Go.Proofs.YtdebjhdafnpfkaaGreatDoor
