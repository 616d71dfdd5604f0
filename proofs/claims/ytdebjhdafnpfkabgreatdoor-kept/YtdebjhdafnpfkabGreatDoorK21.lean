import Derived.Test.YtdebjhdafnpfkabGreatDoorK02
import Derived.Test.YtdebjhdafnpfkabGreatDoorK20
namespace Go.Proofs.YtdebjhdafnpfkabGreatDoor
open Go.ChangeShapes Go.WideShapes Go.ChangeAt Go.RowKit
set_option linter.unusedVariables false
set_option linter.unusedSimpArgs false
set_option maxHeartbeats 1000000 in
set_option maxRecDepth 100000 in
/-- The page's text. -/
theorem pstring (B b : Nat) (wd : Int) (l : List UInt8) (w : World) (h : PageAt B w b wd (Lib.byteCells l)) (h0 : l ≠ []) :
    Calls Tryz.prog 35 #[.pointer (some ⟨b, 0, none⟩)] w fun e w' => e = .returned (.string ⟨l.toArray⟩) ∧ Below B w w' := by
  obtain ⟨p, hB, v, hbk, hown, hne⟩ : ∃ p, PageP p B w b wd (Lib.byteCells l) := by
    rcases h with h | h
    · exact ⟨_, h⟩
    · exact ⟨_, h⟩
  have hl0 : l.length ≠ 0 := by simpa using h0
  rw [Lib.byteCells_length] at hown
  obtain ⟨g, cap, cur, rfl, hbg, hg, hnc, hcm, hcs, htake⟩ : ∃ g cap cur, v = .slice (some ⟨g, 0, none⟩) l.length cap ∧ B ≤ g ∧ w.heap[g]? = some (.cells cur 5 (0, 0)) ∧ l.length ≤ cap ∧ cap ≤ maxLen ∧ cur.size = cap * 1 ∧ cur.toList.take (l.length * 1) = Lib.byteCells l := by
    rcases hown.2 with ⟨_, hz⟩ | ⟨g, cap, cur, hv, r⟩
    · exact absurd hz hl0
    · exact ⟨g, cap, cur, hv, r⟩
  have c1 : w.drew.cell? ⟨b, 1, none⟩ = some (.slice (some ⟨g, 0, none⟩) l.length cap) := by
    have : w.drew.heap[b]? = some (.cells #[p, .slice (some ⟨g, 0, none⟩) l.length cap, .int .i64 wd] 88 (0, 0)) := hbk
    rw [Lib.cell_of_heap this]; rfl
  have hSD : (Builtin.unsafeSliceData_ #[43] 131 #[.slice (some ⟨g, 0, none⟩) l.length cap]).run Tryz.prog w.drew = .ok (.pointer (some ⟨g, 0, none⟩)) w.drew :=
    Lib.run_unsafeSliceData_row _ _ _ _ _ _ (by omega)
  have hUS : (Builtin.unsafeString_ #[131, 3] 9 #[.pointer (some ⟨g, 0, none⟩), .int .i64 l.length]).run Tryz.prog w.drew = .ok (.string ⟨l.toArray⟩) (w.drew.freeze ⟨g, 0, none⟩ l.length) := by
    refine Lib.run_unsafeString_row w.drew 131 3 9 5 Tryz.underlying131 (by kernel_rfl) g cur.size (by have hg' : w.drew.heap[g]? = some (.cells cur 5 (0, 0)) := hg; simp [World.shape?, hg']) l h0 (by omega) (by unfold maxLen at hcm; omega) ?_
    intro j x hx
    have := hown.cells (g := g) rfl j (.int .u8 x.toNat) (by simp [Lib.byteCells, hx])
    exact this
  go_enter Tryz.func35, Tryz.ntmps35
  go_wp2
  go_region
  all_goals (go_wp2; go_ret; exact ⟨rfl, Lib.below_freeze (Below.drew (Below.refl B w)) (p := ⟨g, 0, none⟩) hbg _⟩)
theorem tell_any (q : Nat) (r : ByteArray) (has : Bool) (w : World) (h0 : w.cell? ⟨q, 0, none⟩ = some (.string r)) (h1 : w.cell? ⟨q, 1, none⟩ = some (.bool has)) :
    Calls Tryz.prog 159 #[.pointer (some ⟨q, 0, none⟩)] w fun e w' => e = .returned (.tuple #[.string r, .bool has]) ∧ ∃ n, w' = w.drewN n := by
  go_enter Tryz.func159, Tryz.ntmps159
  go_wp2_with fail
  try go_quiet (fail)
  try go_wp2_with fail
  go_ret2
  exact ⟨rfl, _, rfl⟩
theorem tmeth_hdr (q : Nat) (w : World) : (Go.method 361 124 (.pointer (some ⟨q, 0, none⟩)) "TellRemark").run Tryz.prog w = .ok (159, .pointer (some ⟨q, 0, none⟩)) w := by kernel_rfl
theorem tmeth_pair (q : Nat) (w : World) : (Go.method 361 61 (.pointer (some ⟨q, 0, none⟩)) "TellRemark").run Tryz.prog w = .ok (159, .pointer (some ⟨q, 0, none⟩)) w := by kernel_rfl
theorem tmeth_bare (q : Nat) (w : World) : (Go.method 361 120 (.pointer (some ⟨q, 0, none⟩)) "TellRemark").run Tryz.prog w = .ok (159, .pointer (some ⟨q, 0, none⟩)) w := by kernel_rfl
theorem tahead_hdr (q : Nat) (w : World) : (nilAhead 361 124 (.pointer (some ⟨q, 0, none⟩)) "TellRemark").run Tryz.prog w = .ok (some false) w := by kernel_rfl
theorem tahead_pair (q : Nat) (w : World) : (nilAhead 361 61 (.pointer (some ⟨q, 0, none⟩)) "TellRemark").run Tryz.prog w = .ok (some false) w := by kernel_rfl
theorem tahead_bare (q : Nat) (w : World) : (nilAhead 361 120 (.pointer (some ⟨q, 0, none⟩)) "TellRemark").run Tryz.prog w = .ok (some false) w := by kernel_rfl
theorem asb_hdr (v : Value) (w : World) : (Instr.typeAssert (.iface 124 v) 93 120 true).run Tryz.prog w = .ok (.tuple #[.pointer none, .bool false]) w := by kernel_rfl
theorem asb_pair (v : Value) (w : World) : (Instr.typeAssert (.iface 61 v) 93 120 true).run Tryz.prog w = .ok (.tuple #[.pointer none, .bool false]) w := by kernel_rfl
theorem asb_bare (v : Value) (w : World) : (Instr.typeAssert (.iface 120 v) 93 120 true).run Tryz.prog w = .ok (.tuple #[v, .bool true]) w := by kernel_rfl
theorem ash_hdr (v : Value) (w : World) : (Instr.typeAssert (.iface 124 v) 93 124 true).run Tryz.prog w = .ok (.tuple #[v, .bool true]) w := by kernel_rfl
theorem ash_pair (v : Value) (w : World) : (Instr.typeAssert (.iface 61 v) 93 124 true).run Tryz.prog w = .ok (.tuple #[.pointer none, .bool false]) w := by kernel_rfl
theorem ash_bare (v : Value) (w : World) : (Instr.typeAssert (.iface 120 v) 93 124 true).run Tryz.prog w = .ok (.tuple #[.pointer none, .bool false]) w := by kernel_rfl
theorem isEmpty_any (S : Nat → Prop) (v : Value) (t : It) (w : World) (h : PEnt S w v t) :
    Calls Tryz.prog 51 #[v] w fun e w' => e = .returned (.bool (emptyB t)) ∧ ∃ n, w' = w.drewN n := by
  obtain ⟨q, _, c0, c1, _, hc⟩ := h
  rcases hc with ⟨hk, rfl, _⟩ | ⟨hk, rfl, _⟩ | ⟨hk, rfl⟩
  · have Fin : Hid (emptyB t = false) := by unfold Hid emptyB bareB; rw [hk]; rfl
    have A1 := asb_hdr
    have M1 := tmeth_hdr
    have M2 := tahead_hdr
    clear hk
    go_enter Tryz.func51, Tryz.ntmps51
    go_wp2_with fail
    refine (tell_any q _ _ _ c0 c1).mono ?_
    rintro e w1 ⟨rfl, n, rfl⟩
    go_wp2_with fail
    go_ret
    exact ⟨ret_bool Fin.out.symm, n, rfl⟩
  · have Fin : Hid (emptyB t = false) := by unfold Hid emptyB bareB; rw [hk]; rfl
    have A1 := asb_pair
    have M1 := tmeth_pair
    have M2 := tahead_pair
    clear hk
    go_enter Tryz.func51, Tryz.ntmps51
    go_wp2_with fail
    refine (tell_any q _ _ _ c0 c1).mono ?_
    rintro e w1 ⟨rfl, n, rfl⟩
    go_wp2_with fail
    go_ret
    exact ⟨ret_bool Fin.out.symm, n, rfl⟩
  · have Fin : Hid (emptyB t = !decide (t.rem.size ≠ 0)) := by unfold Hid emptyB bareB; rw [decide_eq_true hk]; rfl
    have A1 := asb_bare
    have M1 := tmeth_bare
    have M2 := tahead_bare
    clear hk
    generalize decide (t.rem.size ≠ 0) = has at *
    go_enter Tryz.func51, Tryz.ntmps51
    go_wp2_with fail
    refine (tell_any q _ _ _ c0 c1).mono ?_
    rintro e w1 ⟨rfl, n, rfl⟩
    cases has
    · go_wp2_with fail
      go_ret
      exact ⟨ret_bool Fin.out.symm, n, rfl⟩
    · go_wp2_with fail
      go_ret
      exact ⟨ret_bool Fin.out.symm, n, rfl⟩
theorem parted_any (S S' : Nat → Prop) (v v' : Value) (t t' : It) (w : World) (h : PEnt S w v t) (h' : PEnt S' w v' t') :
    Calls Tryz.prog 52 #[v, v'] w fun e w' => e = .returned (.bool (partedB t t')) ∧ w' = w := by
  have A1 := asb_hdr
  have A2 := asb_pair
  have A3 := asb_bare
  have A4 := ash_hdr
  have A5 := ash_pair
  have A6 := ash_bare
  obtain ⟨q, _, _, _, _, hc⟩ := h
  obtain ⟨q', _, _, _, _, hc'⟩ := h'
  rcases hc with ⟨hk, rfl, _⟩ | ⟨hk, rfl, _⟩ | ⟨hk, rfl⟩
  · rcases hc' with ⟨hk', rfl, _⟩ | ⟨hk', rfl, _⟩ | ⟨hk', rfl⟩
    · have Fin : Hid (partedB t t' = true) := by unfold Hid partedB bareB; rw [hk, hk']; rfl
      clear hk hk'
      go_enter Tryz.func52, Tryz.ntmps52
      go_wp2_with fail
      go_ret
      exact ⟨ret_bool Fin.out.symm, rfl⟩
    · have Fin : Hid (partedB t t' = false) := by unfold Hid partedB bareB; rw [hk']; rfl
      clear hk hk'
      go_enter Tryz.func52, Tryz.ntmps52
      go_wp2_with fail
      go_ret
      exact ⟨ret_bool Fin.out.symm, rfl⟩
    · have Fin : Hid (partedB t t' = false) := by unfold Hid partedB bareB; rw [decide_eq_false (by omega)]; rfl
      clear hk hk'
      go_enter Tryz.func52, Tryz.ntmps52
      go_wp2_with fail
      go_ret
      exact ⟨ret_bool Fin.out.symm, rfl⟩
  · rcases hc' with ⟨hk', rfl, _⟩ | ⟨hk', rfl, _⟩ | ⟨hk', rfl⟩
    · have Fin : Hid (partedB t t' = true) := by unfold Hid partedB bareB; rw [hk, hk']; rfl
      clear hk hk'
      go_enter Tryz.func52, Tryz.ntmps52
      go_wp2_with fail
      go_ret
      exact ⟨ret_bool Fin.out.symm, rfl⟩
    · have Fin : Hid (partedB t t' = false) := by unfold Hid partedB bareB; rw [hk']; rfl
      clear hk hk'
      go_enter Tryz.func52, Tryz.ntmps52
      go_wp2_with fail
      go_ret
      exact ⟨ret_bool Fin.out.symm, rfl⟩
    · have Fin : Hid (partedB t t' = false) := by unfold Hid partedB bareB; rw [decide_eq_false (by omega)]; rfl
      clear hk hk'
      go_enter Tryz.func52, Tryz.ntmps52
      go_wp2_with fail
      go_ret
      exact ⟨ret_bool Fin.out.symm, rfl⟩
  · rcases hc' with ⟨hk', rfl, _⟩ | ⟨hk', rfl, _⟩ | ⟨hk', rfl⟩
    · have Fin : Hid (partedB t t' = false) := by unfold Hid partedB bareB; rw [decide_eq_true hk]; simp
      clear hk hk'
      go_enter Tryz.func52, Tryz.ntmps52
      go_wp2_with fail
      go_ret
      exact ⟨ret_bool Fin.out.symm, rfl⟩
    · have Fin : Hid (partedB t t' = false) := by unfold Hid partedB bareB; rw [hk']; rfl
      clear hk hk'
      go_enter Tryz.func52, Tryz.ntmps52
      go_wp2_with fail
      go_ret
      exact ⟨ret_bool Fin.out.symm, rfl⟩
    · have Fin : Hid (partedB t t' = false) := by unfold Hid partedB bareB; rw [decide_eq_false (by omega)]; rfl
      clear hk hk'
      go_enter Tryz.func52, Tryz.ntmps52
      go_wp2_with fail
      go_ret
      exact ⟨ret_bool Fin.out.symm, rfl⟩
end Go.Proofs.YtdebjhdafnpfkabGreatDoor
