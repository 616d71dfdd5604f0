import Derived.Test.YtdebjhdafnpfkabGreatDoorK37
import Derived.Test.YtdebjhdafnpfkabGreatDoorK35
import Derived.Test.YtdebjhdafnpfkabGreatDoorK28
import Derived.Deep.RegionWith
import Derived.OwnWalk
namespace Go.Proofs.YtdebjhdafnpfkabGreatDoor
open Go.ChangeShapes Go.WideShapes Go.ChangeAt Go.RowKit
set_option linter.unusedVariables false
set_option linter.unusedSimpArgs false
theorem format_K (d q : Nat) (w0 w : World) (hd : w.cell? ⟨d, 0, none⟩ = some (ptr q)) (hsh : SheetOk w0 w q itK) :
    Calls Tryz.prog 9 #[ptr d, .int .i64 80] w fun e w' => e = .returned (.tuple #[.string laidK, .nilIface]) ∧ Below w.heap.size w w' := by
  have HS : Hid (SheetOk w0 w q itK) := hsh
  clear hsh
  go_enter Tryz.func9, Tryz.ntmps9
  go_wp2_with fail
  refine (open_ok d q _ hd).mono ?_
  rintro e w1 ⟨rfl, hw1⟩
  rw [hw1]
  clear hw1
  go_wp2_with fail
  refine (lay_K q w0 w HS.out).mono ?_
  rintro e w2 ⟨rfl, hB⟩
  have HB : Hid _ := hB
  clear hB
  go_wp2_with fail
  go_ret2
  exact ⟨rfl, HB.out⟩
theorem pathsK : pathsOf itK = [⟨#[98]⟩, ⟨#[110, 97, 109, 101]⟩, ⟨#[116, 46, 99]⟩] := by rfl
set_option maxRecDepth 100000 in
set_option maxHeartbeats 1000000 in
theorem known_true (w : World) (m : Int) (hm : w.cell? ⟨1, 0, none⟩ = some (.int .i64 m))
    (hg : w.cell? ⟨0, 0, none⟩ = some (.iface 137 (.agg #[.pointer (some ⟨7, 29, none⟩)]))) :
    Calls Tryz.prog 5 #[] w fun e w' => e = .returned (.bool true) ∧ Below w.heap.size w w' := by
  have Hm : Hid _ := hm
  have Hg : Hid _ := hg
  clear hm hg
  go_enter Tryz.func5, Tryz.ntmps5
  go_wp2_with fail
  refine (parse_any kS _ m (by decide) Hm.out Hg.out).mono ?_
  rintro e w1 (⟨h0, d, q, rfl, d1, d2, d3, hsh, hB1⟩ | ⟨h0, _⟩)
  · rw [readK] at hsh
    have HS : Hid (SheetOk w w1 q itK) := hsh
    have HB1 : Hid (Below w.heap.size w w1) := hB1
    have hz1 := hB1.size
    have hsz := ItOk_full hsh.1
    have HZ : Hid _ := hsz
    clear hsh hB1 h0 hsz
    go_wp2_with fail
    refine (format_K d q w w1 d3 HS.out).mono ?_
    rintro e w2 ⟨rfl, hB2⟩
    have HB2 : Hid (Below w1.heap.size w1 w2) := hB2
    have hz2 := hB2.size
    have d3' := (hB2.cell (p := ⟨d, 0, none⟩) d2).trans d3
    have HS2 : Hid (SheetOk w w2 q itK) := HS.out.frame (Nat.le_refl _) hz2 (fun k _ k2 => hB2.block k k2)
    unfold laidK
    clear hB2
    go_wp2_with fail
    refine (paths_any d q itK w w2 d3' HS2.out HZ.out).mono ?_
    rintro e w3 ⟨lv, rfl, hown, hB3⟩
    rw [pathsK] at hown
    obtain ⟨al, cl, el⟩ := owns_form hown
    subst el
    obtain ⟨g, eg, _, _, hgc⟩ := rowv_cell hown 2 (.string ⟨#[116, 46, 99]⟩) rfl
    subst eg
    have HBF : Hid (Below w.heap.size w w3) := (HB1.out.trans (HB2.out.mono hz1)).trans (hB3.mono (by omega))
    clear hown hB3
    go_wp2_with fail
    go_ret
    exact ⟨rfl, HBF.out⟩
  · exact absurd readKe h0
end Go.Proofs.YtdebjhdafnpfkabGreatDoor

namespace Go.Proofs.YtdebjhdafnpfkabGreatDoor
open Go.ChangeShapes Go.WideShapes Go.ChangeAt Go.RowKit
set_option linter.unusedVariables false
set_option linter.unusedSimpArgs false
set_option maxHeartbeats 2000000 in
theorem kname_any (i : Nat) (c : Int) (w : World) (hi : i ≤ 1000) (h1 : -9223372036854775808 ≤ c) (h2 : c ≤ 9223372036854775807) :
    Calls Tryz.prog 21 #[.int .i64 i, .int .i64 c] w fun e w' => e = .returned (.string (nmB i c)) ∧ Below w.heap.size w w' := by
  have hl := pk_lt c 10 (by decide)
  have HP : Hid (∀ w, Calls Tryz.prog 6 #[.int .i64 c, .int .i64 10] w fun e w' => e = .returned (.int .i64 (pk c 10)) ∧ w' = w) := fun w => pick_any c 10 w h1 h2 (by decide) (by decide)
  have Fin : Hid (nmB i c = keyS.extract 0 (1 + pk c 10) ++ dgtB i) := rfl
  have HD : Hid (∀ w : World, Calls Tryz.prog 7 #[.int .i64 i] w fun e w' => e = .returned (.string (dgtB i)) ∧ Below w.heap.size w w') := digits_any i (by omega) (by omega)
  have z1 := dig_size i
  generalize pk c 10 = k at *
  rcases (by omega : k = 0 ∨ k = 1 ∨ k = 2 ∨ k = 3 ∨ k = 4 ∨ k = 5 ∨ k = 6 ∨ k = 7 ∨ k = 8 ∨ k = 9) with rfl | rfl | rfl | rfl | rfl | rfl | rfl | rfl | rfl | rfl
  all_goals (simp only [Int.cast_ofNat_Int] at HP)
  all_goals (
    go_enter Tryz.func21, Tryz.ntmps21
    go_wp2_with fail
    go_region_with (first | (go_at_call 6; refine (HP.out _).mono ?_; rintro e wp ⟨rfl, hwp⟩; rw [hwp]; clear hwp) | (go_at_call 7; refine (HD.out _).mono ?_; rintro e wd ⟨rfl, hBd⟩; have HBd : Hid _ := hBd; clear hBd))
    all_goals (go_wp2_with fail)
    all_goals go_ret
    all_goals exact ⟨congrArg (fun z => Ending.returned (.string z)) Fin.out.symm, ⟨HBd.out.os, HBd.out.tape, HBd.out.output, HBd.out.size, fun j hj => HBd.out.block j hj⟩⟩)
end Go.Proofs.YtdebjhdafnpfkabGreatDoor
