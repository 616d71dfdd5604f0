import Derived.Test.YtdebjhdafnpfkabGreatDoorK19
import Derived.Test.YtdebjhdafnpfkabGreatDoorK05
import Derived.Test.YtdebjhdafnpfkabGreatDoorK29
import Derived.Lib.ItoaWalk
import Derived.Test.YtdebjhdafnpfkabGreatDoorK27
import Derived.Test.YtdebjhdafnpfkabGreatDoorK02
import Derived.Test.YtdebjhdafnpfkabGreatDoorK20
namespace Go.Proofs.YtdebjhdafnpfkabGreatDoor
open Go.ChangeShapes Go.WideShapes Go.ChangeAt Go.RowKit Go.Lib
set_option linter.unusedVariables false
set_option linter.unusedSimpArgs false
/-- A row of 24 bytes, as a number is told into it. -/
structure R24 (w0 W : World) (g : Nat) (f : Nat → Nat) : Prop where
  cell : ∀ i, i < 24 → W.cell? ⟨g, i, none⟩ = some (.int .u8 (f i))
  fz : ∀ i, W.frozen? ⟨g, i, none⟩ = false
  b : Below g w0 W
  z : w0.heap.size = W.heap.size
def upd (f : Nat → Nat) (i v : Nat) : Nat → Nat := fun j => if j = i then v else f j
theorem R24.set {w0 W : World} {g : Nat} {f : Nat → Nat} (h : R24 w0 W g f) (i v : Nat) (hi : i < 24) : R24 w0 (W.setCell ⟨g, i, none⟩ (.int .u8 v)) g (upd f i v) := by
  refine ⟨fun j hj => ?_, fun j => (World.frozen?_setCell _ _ _ _).trans (h.fz j), h.b.setCell (Nat.le_refl _) _, by rw [h.z]; simp [World.setCell]⟩
  unfold upd
  by_cases e : j = i
  · subst e
    rw [if_pos rfl]
    exact cell_set_same _ _ _ _ _ (h.cell j hj)
  · rw [if_neg e]
    exact (cell_set_off _ _ _ _ _ (fun q => e q.symm)).trans (h.cell j hj)
theorem R24.drew {w0 W : World} {g : Nat} {f : Nat → Nat} (h : R24 w0 W g f) (n : Nat) : R24 w0 (W.drewN n) g f := by
  induction n with
  | zero => exact h
  | succ n ih => exact ⟨ih.cell, ih.fz, ih.b.drew, ih.z⟩
/-- The bytes of a number of so many places. -/
def dgA (u : Nat) : Nat := (sm (u % 100 * 2 + 1)).toNat
def dgB2 (u : Nat) : Nat := (sm (u % 100 * 2)).toNat
def fmL : Nat → Nat → List Nat
  | 0, _ => []
  | 1, u => [(48 + u) % 256]
  | 2, u => [dgB2 u, dgA u]
  | 3, u => [(48 + u / 100) % 256, dgB2 u, dgA u]
  | 4, u => [dgB2 (u / 100), dgA (u / 100), dgB2 u, dgA u]
  | 5, u => [(48 + u / 10000) % 256, dgB2 (u / 100), dgA (u / 100), dgB2 u, dgA u]
  | 6, u => [dgB2 (u / 10000), dgA (u / 10000), dgB2 (u / 100), dgA (u / 100), dgB2 u, dgA u]
  | _, u => [(48 + u / 1000000) % 256, dgB2 (u / 10000), dgA (u / 10000), dgB2 (u / 100), dgA (u / 100), dgB2 u, dgA u]
/-- What formatBase10 leaves. -/
def B10 (nd u : Nat) (w w' : World) (g : Nat) (f : Nat → Nat) : Prop := ∃ f', R24 w w' g f' ∧ f' 0 = f 0 ∧ ∀ i v, (fmL nd u)[i]? = some v → f' (1 + i) = v
set_option maxRecDepth 100000 in
set_option maxHeartbeats 4000000 in
theorem b10_0 (g u : Nat) (hu : u < 2097152) (w w0 : World) (f : Nat → Nat) (hR : R24 w0 w g f) :
    Calls Tryz.prog 189 #[.slice (some ⟨g, 1, none⟩) 0 23, .int .u64 u] w fun e w' => e = .returned (.tuple #[]) ∧ B10 0 u w0 w' g f := by
  have mixed : Tryz.prog.follows .mixedOrders = true := by kernel_rfl
  go_enter Tryz.func189, Tryz.ntmps189
  go_name_bytes SM hSM
  have eSM : SM = Lib.smalls := by rw [← hSM]; decide +kernel
  subst eSM
  clear hSM
  have HR := hid hR
  have hF := hR.fz
  clear hR
  go_wp2_with fail
  go_loop [1, 4] (fun u1 u4 => u1 = .int .u64 u ∧ u4 = .int .i64 0) (fun _ _ => 0)
  case atStart => exact ⟨rfl, rfl⟩
  case round =>
    obtain ⟨rfl, rfl⟩ := hrel
    go_wp2_with fail
    go_returns
    have Fin := HR.out
    have Fin2 := Fin
    refine ⟨rfl, _, Fin2, ?_, ?_⟩
    · simp [upd]
    · intro i v h
      match i, h with
      | i + 0, h => simp [fmL] at h
set_option maxRecDepth 100000 in
set_option maxHeartbeats 4000000 in
theorem b10_1 (g u : Nat) (hu : u < 2097152) (w w0 : World) (f : Nat → Nat) (hR : R24 w0 w g f) :
    Calls Tryz.prog 189 #[.slice (some ⟨g, 1, none⟩) 1 23, .int .u64 u] w fun e w' => e = .returned (.tuple #[]) ∧ B10 1 u w0 w' g f := by
  have mixed : Tryz.prog.follows .mixedOrders = true := by kernel_rfl
  go_enter Tryz.func189, Tryz.ntmps189
  go_name_bytes SM hSM
  have eSM : SM = Lib.smalls := by rw [← hSM]; decide +kernel
  subst eSM
  clear hSM
  have HR := hid hR
  have c1 := hR.cell 1 (by omega)
  have hF := hR.fz
  clear hR
  go_wp2_with fail
  go_loop [1, 4] (fun u1 u4 => u1 = .int .u64 u ∧ u4 = .int .i64 1) (fun _ _ => 0)
  case atStart => exact ⟨rfl, rfl⟩
  case round =>
    obtain ⟨rfl, rfl⟩ := hrel
    go_wp2_with fail
    go_returns
    have Fin := (HR.out.set 1 ((48 + u) % 256) (by omega))
    have Fin2 := Fin
    rw [show ((48 + (u : Int)) % 256 : Int) = (((48 + u) % 256 : Nat) : Int) by omega]
    refine ⟨rfl, _, Fin2, ?_, ?_⟩
    · simp [upd]
    · intro i v h
      match i, h with
      | 0, h => simp [fmL] at h; subst h; simp [upd]
      | i + 1, h => simp [fmL] at h
set_option maxRecDepth 100000 in
set_option maxHeartbeats 4000000 in
theorem b10_2 (g u : Nat) (hu : u < 2097152) (w w0 : World) (f : Nat → Nat) (hR : R24 w0 w g f) :
    Calls Tryz.prog 189 #[.slice (some ⟨g, 1, none⟩) 2 23, .int .u64 u] w fun e w' => e = .returned (.tuple #[]) ∧ B10 2 u w0 w' g f := by
  have mixed : Tryz.prog.follows .mixedOrders = true := by kernel_rfl
  go_enter Tryz.func189, Tryz.ntmps189
  go_name_bytes SM hSM
  have eSM : SM = Lib.smalls := by rw [← hSM]; decide +kernel
  subst eSM
  clear hSM
  have HR := hid hR
  have c1 := hR.cell 1 (by omega)
  have c2 := hR.cell 2 (by omega)
  have hF := hR.fz
  clear hR
  go_wp2_with fail
  go_loop [1, 4] (fun u1 u4 => u1 = .int .u64 u ∧ u4 = .int .i64 2) (fun _ _ => 0)
  case atStart => exact ⟨rfl, rfl⟩
  case round =>
    obtain ⟨rfl, rfl⟩ := hrel
    go_wp2_with fail
    go_name_slot 16 x0 hx0
    have hxe0 : x0 = (((u) % 100 * 2 : Nat) : Int) := by omega
    have hXa0 : ∀ w, (Instr.index 9 (.string Lib.smalls) (.int .u32 (x0 + 1))).run Tryz.prog w = .ok (.int .u8 ((sm ((u) % 100 * 2 + 1)).toNat : Int)) w := idx_smalls 9 Tryz.underlying9 .u32 _ _ (by omega) (by omega)
    have hXb0 : ∀ w, (Instr.index 9 (.string Lib.smalls) (.int .u32 x0)).run Tryz.prog w = .ok (.int .u8 ((sm ((u) % 100 * 2)).toNat : Int)) w := idx_smalls 9 Tryz.underlying9 .u32 _ _ (by omega) (by omega)
    have hlo0 : 0 ≤ x0 := by omega
    have hhi0 : x0 ≤ 198 := by omega
    clear hx0 hxe0
    go_region_o
    go_wp2_with fail
    go_returns
    have Fin := ((HR.out.set 2 (dgA (u)) (by omega)).set 1 (dgB2 (u)) (by omega))
    have Fin2 := Fin.drew 1
    refine ⟨rfl, _, Fin2, ?_, ?_⟩
    · simp [upd]
    · intro i v h
      match i, h with
      | 0, h => simp [fmL] at h; subst h; simp [upd]
      | 1, h => simp [fmL] at h; subst h; simp [upd]
      | i + 2, h => simp [fmL] at h
set_option maxRecDepth 100000 in
set_option maxHeartbeats 4000000 in
theorem b10_3 (g u : Nat) (hu : u < 2097152) (w w0 : World) (f : Nat → Nat) (hR : R24 w0 w g f) :
    Calls Tryz.prog 189 #[.slice (some ⟨g, 1, none⟩) 3 23, .int .u64 u] w fun e w' => e = .returned (.tuple #[]) ∧ B10 3 u w0 w' g f := by
  have mixed : Tryz.prog.follows .mixedOrders = true := by kernel_rfl
  go_enter Tryz.func189, Tryz.ntmps189
  go_name_bytes SM hSM
  have eSM : SM = Lib.smalls := by rw [← hSM]; decide +kernel
  subst eSM
  clear hSM
  have HR := hid hR
  have c1 := hR.cell 1 (by omega)
  have c2 := hR.cell 2 (by omega)
  have c3 := hR.cell 3 (by omega)
  have hF := hR.fz
  clear hR
  go_wp2_with fail
  go_loop [1, 4] (fun u1 u4 => u1 = .int .u64 u ∧ u4 = .int .i64 3) (fun _ _ => 0)
  case atStart => exact ⟨rfl, rfl⟩
  case round =>
    obtain ⟨rfl, rfl⟩ := hrel
    go_wp2_with fail
    go_name_slot 16 x0 hx0
    have hxe0 : x0 = (((u) % 100 * 2 : Nat) : Int) := by omega
    have hXa0 : ∀ w, (Instr.index 9 (.string Lib.smalls) (.int .u32 (x0 + 1))).run Tryz.prog w = .ok (.int .u8 ((sm ((u) % 100 * 2 + 1)).toNat : Int)) w := idx_smalls 9 Tryz.underlying9 .u32 _ _ (by omega) (by omega)
    have hXb0 : ∀ w, (Instr.index 9 (.string Lib.smalls) (.int .u32 x0)).run Tryz.prog w = .ok (.int .u8 ((sm ((u) % 100 * 2)).toNat : Int)) w := idx_smalls 9 Tryz.underlying9 .u32 _ _ (by omega) (by omega)
    have hlo0 : 0 ≤ x0 := by omega
    have hhi0 : x0 ≤ 198 := by omega
    clear hx0 hxe0
    go_region_o
    go_wp2_with fail
    go_returns
    have Fin := (((HR.out.set 3 (dgA (u)) (by omega)).set 2 (dgB2 (u)) (by omega)).set 1 ((48 + u / 100) % 256) (by omega))
    have Fin2 := Fin.drew 1
    rw [show ((48 + (u : Int) / 100) % 256 : Int) = (((48 + u / 100) % 256 : Nat) : Int) by omega]
    refine ⟨rfl, _, Fin2, ?_, ?_⟩
    · simp [upd]
    · intro i v h
      match i, h with
      | 0, h => simp [fmL] at h; subst h; simp [upd]
      | 1, h => simp [fmL] at h; subst h; simp [upd]
      | 2, h => simp [fmL] at h; subst h; simp [upd]
      | i + 3, h => simp [fmL] at h
set_option maxRecDepth 100000 in
set_option maxHeartbeats 4000000 in
theorem b10_4 (g u : Nat) (hu : u < 2097152) (w w0 : World) (f : Nat → Nat) (hR : R24 w0 w g f) :
    Calls Tryz.prog 189 #[.slice (some ⟨g, 1, none⟩) 4 23, .int .u64 u] w fun e w' => e = .returned (.tuple #[]) ∧ B10 4 u w0 w' g f := by
  have mixed : Tryz.prog.follows .mixedOrders = true := by kernel_rfl
  go_enter Tryz.func189, Tryz.ntmps189
  go_name_bytes SM hSM
  have eSM : SM = Lib.smalls := by rw [← hSM]; decide +kernel
  subst eSM
  clear hSM
  have HR := hid hR
  have c1 := hR.cell 1 (by omega)
  have c2 := hR.cell 2 (by omega)
  have c3 := hR.cell 3 (by omega)
  have c4 := hR.cell 4 (by omega)
  have hF := hR.fz
  clear hR
  go_wp2_with fail
  go_loop [1, 4] (fun u1 u4 => u1 = .int .u64 u ∧ u4 = .int .i64 4) (fun _ _ => 0)
  case atStart => exact ⟨rfl, rfl⟩
  case round =>
    obtain ⟨rfl, rfl⟩ := hrel
    go_wp2_with fail
    go_name_slot 15 x0 hx0
    have hxe0 : x0 = (((u) % 100 * 2 : Nat) : Int) := by omega
    have hXa0 : ∀ w, (Instr.index 9 (.string Lib.smalls) (.int .u32 (x0 + 1))).run Tryz.prog w = .ok (.int .u8 ((sm ((u) % 100 * 2 + 1)).toNat : Int)) w := idx_smalls 9 Tryz.underlying9 .u32 _ _ (by omega) (by omega)
    have hXb0 : ∀ w, (Instr.index 9 (.string Lib.smalls) (.int .u32 x0)).run Tryz.prog w = .ok (.int .u8 ((sm ((u) % 100 * 2)).toNat : Int)) w := idx_smalls 9 Tryz.underlying9 .u32 _ _ (by omega) (by omega)
    have hlo0 : 0 ≤ x0 := by omega
    have hhi0 : x0 ≤ 198 := by omega
    clear hx0 hxe0
    go_region_o
    go_wp2_with fail
    go_name_world W1 hW1
    have R1 := (((HR.out.set 4 (dgA (u)) (by omega)).set 3 (dgB2 (u)) (by omega)).drew 1)
    obtain ⟨f1, hf1⟩ : ∃ f1 : Nat → Nat, f1 = upd (upd f 4 (dgA (u))) 3 (dgB2 (u)) := ⟨_, rfl⟩
    have HR1 : Hid (R24 w0 W1 g f1) := by unfold Hid; rw [← hW1, hf1]; exact R1
    have cF1 := HR1.out.cell
    have hF1 := HR1.out.fz
    have d1_1 := cF1 1 (by omega)
    have d1_2 := cF1 2 (by omega)
    have d1_3 := cF1 3 (by omega)
    have d1_4 := cF1 4 (by omega)
    have Hf1 := hid hf1
    clear hf1 hW1 R1 cF1 hXa0 hXb0 c1 c2 c3 c4 hF
    go_name_slot 14 x1 hx1
    have hxe1 : x1 = (((u / 100) % 100 * 2 : Nat) : Int) := by omega
    have hXa1 : ∀ w, (Instr.index 9 (.string Lib.smalls) (.int .u32 (x1 + 1))).run Tryz.prog w = .ok (.int .u8 ((sm ((u / 100) % 100 * 2 + 1)).toNat : Int)) w := idx_smalls 9 Tryz.underlying9 .u32 _ _ (by omega) (by omega)
    have hXb1 : ∀ w, (Instr.index 9 (.string Lib.smalls) (.int .u32 x1)).run Tryz.prog w = .ok (.int .u8 ((sm ((u / 100) % 100 * 2)).toNat : Int)) w := idx_smalls 9 Tryz.underlying9 .u32 _ _ (by omega) (by omega)
    have hlo1 : 0 ≤ x1 := by omega
    have hhi1 : x1 ≤ 198 := by omega
    clear hx1 hxe1
    go_region_o
    go_wp2_with fail
    go_returns
    have Fin := ((HR1.out.set 2 (dgA (u / 100)) (by omega)).set 1 (dgB2 (u / 100)) (by omega))
    have Fin2 := Fin.drew 1
    refine ⟨rfl, _, Fin2, ?_, ?_⟩
    · simp [upd, Hf1.out]
    · intro i v h
      match i, h with
      | 0, h => simp [fmL] at h; subst h; simp [upd, Hf1.out]
      | 1, h => simp [fmL] at h; subst h; simp [upd, Hf1.out]
      | 2, h => simp [fmL] at h; subst h; simp [upd, Hf1.out]
      | 3, h => simp [fmL] at h; subst h; simp [upd, Hf1.out]
      | i + 4, h => simp [fmL] at h
set_option maxRecDepth 100000 in
set_option maxHeartbeats 4000000 in
theorem b10_5 (g u : Nat) (hu : u < 2097152) (w w0 : World) (f : Nat → Nat) (hR : R24 w0 w g f) :
    Calls Tryz.prog 189 #[.slice (some ⟨g, 1, none⟩) 5 23, .int .u64 u] w fun e w' => e = .returned (.tuple #[]) ∧ B10 5 u w0 w' g f := by
  have mixed : Tryz.prog.follows .mixedOrders = true := by kernel_rfl
  go_enter Tryz.func189, Tryz.ntmps189
  go_name_bytes SM hSM
  have eSM : SM = Lib.smalls := by rw [← hSM]; decide +kernel
  subst eSM
  clear hSM
  have HR := hid hR
  have c1 := hR.cell 1 (by omega)
  have c2 := hR.cell 2 (by omega)
  have c3 := hR.cell 3 (by omega)
  have c4 := hR.cell 4 (by omega)
  have c5 := hR.cell 5 (by omega)
  have hF := hR.fz
  clear hR
  go_wp2_with fail
  go_loop [1, 4] (fun u1 u4 => u1 = .int .u64 u ∧ u4 = .int .i64 5) (fun _ _ => 0)
  case atStart => exact ⟨rfl, rfl⟩
  case round =>
    obtain ⟨rfl, rfl⟩ := hrel
    go_wp2_with fail
    go_name_slot 15 x0 hx0
    have hxe0 : x0 = (((u) % 100 * 2 : Nat) : Int) := by omega
    have hXa0 : ∀ w, (Instr.index 9 (.string Lib.smalls) (.int .u32 (x0 + 1))).run Tryz.prog w = .ok (.int .u8 ((sm ((u) % 100 * 2 + 1)).toNat : Int)) w := idx_smalls 9 Tryz.underlying9 .u32 _ _ (by omega) (by omega)
    have hXb0 : ∀ w, (Instr.index 9 (.string Lib.smalls) (.int .u32 x0)).run Tryz.prog w = .ok (.int .u8 ((sm ((u) % 100 * 2)).toNat : Int)) w := idx_smalls 9 Tryz.underlying9 .u32 _ _ (by omega) (by omega)
    have hlo0 : 0 ≤ x0 := by omega
    have hhi0 : x0 ≤ 198 := by omega
    clear hx0 hxe0
    go_region_o
    go_wp2_with fail
    go_name_world W1 hW1
    have R1 := (((HR.out.set 5 (dgA (u)) (by omega)).set 4 (dgB2 (u)) (by omega)).drew 1)
    obtain ⟨f1, hf1⟩ : ∃ f1 : Nat → Nat, f1 = upd (upd f 5 (dgA (u))) 4 (dgB2 (u)) := ⟨_, rfl⟩
    have HR1 : Hid (R24 w0 W1 g f1) := by unfold Hid; rw [← hW1, hf1]; exact R1
    have cF1 := HR1.out.cell
    have hF1 := HR1.out.fz
    have d1_1 := cF1 1 (by omega)
    have d1_2 := cF1 2 (by omega)
    have d1_3 := cF1 3 (by omega)
    have d1_4 := cF1 4 (by omega)
    have d1_5 := cF1 5 (by omega)
    have Hf1 := hid hf1
    clear hf1 hW1 R1 cF1 hXa0 hXb0 c1 c2 c3 c4 c5 hF
    go_name_slot 14 x1 hx1
    have hxe1 : x1 = (((u / 100) % 100 * 2 : Nat) : Int) := by omega
    have hXa1 : ∀ w, (Instr.index 9 (.string Lib.smalls) (.int .u32 (x1 + 1))).run Tryz.prog w = .ok (.int .u8 ((sm ((u / 100) % 100 * 2 + 1)).toNat : Int)) w := idx_smalls 9 Tryz.underlying9 .u32 _ _ (by omega) (by omega)
    have hXb1 : ∀ w, (Instr.index 9 (.string Lib.smalls) (.int .u32 x1)).run Tryz.prog w = .ok (.int .u8 ((sm ((u / 100) % 100 * 2)).toNat : Int)) w := idx_smalls 9 Tryz.underlying9 .u32 _ _ (by omega) (by omega)
    have hlo1 : 0 ≤ x1 := by omega
    have hhi1 : x1 ≤ 198 := by omega
    clear hx1 hxe1
    go_region_o
    go_wp2_with fail
    go_returns
    have Fin := (((HR1.out.set 3 (dgA (u / 100)) (by omega)).set 2 (dgB2 (u / 100)) (by omega)).set 1 ((48 + u / 10000) % 256) (by omega))
    have Fin2 := Fin.drew 1
    rw [show ((48 + (u : Int) / 10000) % 256 : Int) = (((48 + u / 10000) % 256 : Nat) : Int) by omega]
    refine ⟨rfl, _, Fin2, ?_, ?_⟩
    · simp [upd, Hf1.out]
    · intro i v h
      match i, h with
      | 0, h => simp [fmL] at h; subst h; simp [upd, Hf1.out]
      | 1, h => simp [fmL] at h; subst h; simp [upd, Hf1.out]
      | 2, h => simp [fmL] at h; subst h; simp [upd, Hf1.out]
      | 3, h => simp [fmL] at h; subst h; simp [upd, Hf1.out]
      | 4, h => simp [fmL] at h; subst h; simp [upd, Hf1.out]
      | i + 5, h => simp [fmL] at h
set_option maxRecDepth 100000 in
set_option maxHeartbeats 4000000 in
theorem b10_6 (g u : Nat) (hu : u < 2097152) (w w0 : World) (f : Nat → Nat) (hR : R24 w0 w g f) :
    Calls Tryz.prog 189 #[.slice (some ⟨g, 1, none⟩) 6 23, .int .u64 u] w fun e w' => e = .returned (.tuple #[]) ∧ B10 6 u w0 w' g f := by
  have mixed : Tryz.prog.follows .mixedOrders = true := by kernel_rfl
  go_enter Tryz.func189, Tryz.ntmps189
  go_name_bytes SM hSM
  have eSM : SM = Lib.smalls := by rw [← hSM]; decide +kernel
  subst eSM
  clear hSM
  have HR := hid hR
  have c1 := hR.cell 1 (by omega)
  have c2 := hR.cell 2 (by omega)
  have c3 := hR.cell 3 (by omega)
  have c4 := hR.cell 4 (by omega)
  have c5 := hR.cell 5 (by omega)
  have c6 := hR.cell 6 (by omega)
  have hF := hR.fz
  clear hR
  go_wp2_with fail
  go_loop [1, 4] (fun u1 u4 => u1 = .int .u64 u ∧ u4 = .int .i64 6) (fun _ _ => 0)
  case atStart => exact ⟨rfl, rfl⟩
  case round =>
    obtain ⟨rfl, rfl⟩ := hrel
    go_wp2_with fail
    go_name_slot 15 x0 hx0
    have hxe0 : x0 = (((u) % 100 * 2 : Nat) : Int) := by omega
    have hXa0 : ∀ w, (Instr.index 9 (.string Lib.smalls) (.int .u32 (x0 + 1))).run Tryz.prog w = .ok (.int .u8 ((sm ((u) % 100 * 2 + 1)).toNat : Int)) w := idx_smalls 9 Tryz.underlying9 .u32 _ _ (by omega) (by omega)
    have hXb0 : ∀ w, (Instr.index 9 (.string Lib.smalls) (.int .u32 x0)).run Tryz.prog w = .ok (.int .u8 ((sm ((u) % 100 * 2)).toNat : Int)) w := idx_smalls 9 Tryz.underlying9 .u32 _ _ (by omega) (by omega)
    have hlo0 : 0 ≤ x0 := by omega
    have hhi0 : x0 ≤ 198 := by omega
    clear hx0 hxe0
    go_region_o
    go_wp2_with fail
    go_name_world W1 hW1
    have R1 := (((HR.out.set 6 (dgA (u)) (by omega)).set 5 (dgB2 (u)) (by omega)).drew 1)
    obtain ⟨f1, hf1⟩ : ∃ f1 : Nat → Nat, f1 = upd (upd f 6 (dgA (u))) 5 (dgB2 (u)) := ⟨_, rfl⟩
    have HR1 : Hid (R24 w0 W1 g f1) := by unfold Hid; rw [← hW1, hf1]; exact R1
    have cF1 := HR1.out.cell
    have hF1 := HR1.out.fz
    have d1_1 := cF1 1 (by omega)
    have d1_2 := cF1 2 (by omega)
    have d1_3 := cF1 3 (by omega)
    have d1_4 := cF1 4 (by omega)
    have d1_5 := cF1 5 (by omega)
    have d1_6 := cF1 6 (by omega)
    have Hf1 := hid hf1
    clear hf1 hW1 R1 cF1 hXa0 hXb0 c1 c2 c3 c4 c5 c6 hF
    go_name_slot 14 x1 hx1
    have hxe1 : x1 = (((u / 100) % 100 * 2 : Nat) : Int) := by omega
    have hXa1 : ∀ w, (Instr.index 9 (.string Lib.smalls) (.int .u32 (x1 + 1))).run Tryz.prog w = .ok (.int .u8 ((sm ((u / 100) % 100 * 2 + 1)).toNat : Int)) w := idx_smalls 9 Tryz.underlying9 .u32 _ _ (by omega) (by omega)
    have hXb1 : ∀ w, (Instr.index 9 (.string Lib.smalls) (.int .u32 x1)).run Tryz.prog w = .ok (.int .u8 ((sm ((u / 100) % 100 * 2)).toNat : Int)) w := idx_smalls 9 Tryz.underlying9 .u32 _ _ (by omega) (by omega)
    have hlo1 : 0 ≤ x1 := by omega
    have hhi1 : x1 ≤ 198 := by omega
    clear hx1 hxe1
    go_region_o
    go_wp2_with fail
    go_name_world W2 hW2
    have R2 := (((HR1.out.set 4 (dgA (u / 100)) (by omega)).set 3 (dgB2 (u / 100)) (by omega)).drew 1)
    obtain ⟨f2, hf2⟩ : ∃ f2 : Nat → Nat, f2 = upd (upd f1 4 (dgA (u / 100))) 3 (dgB2 (u / 100)) := ⟨_, rfl⟩
    have HR2 : Hid (R24 w0 W2 g f2) := by unfold Hid; rw [← hW2, hf2]; exact R2
    have cF2 := HR2.out.cell
    have hF2 := HR2.out.fz
    have d2_1 := cF2 1 (by omega)
    have d2_2 := cF2 2 (by omega)
    have d2_3 := cF2 3 (by omega)
    have d2_4 := cF2 4 (by omega)
    have d2_5 := cF2 5 (by omega)
    have d2_6 := cF2 6 (by omega)
    have Hf2 := hid hf2
    clear hf2 hW2 R2 cF2 hXa1 hXb1 d1_1 d1_2 d1_3 d1_4 d1_5 d1_6 hF1
    go_name_slot 16 x2 hx2
    have hxe2 : x2 = (((u / 10000) % 100 * 2 : Nat) : Int) := by omega
    have hXa2 : ∀ w, (Instr.index 9 (.string Lib.smalls) (.int .u32 (x2 + 1))).run Tryz.prog w = .ok (.int .u8 ((sm ((u / 10000) % 100 * 2 + 1)).toNat : Int)) w := idx_smalls 9 Tryz.underlying9 .u32 _ _ (by omega) (by omega)
    have hXb2 : ∀ w, (Instr.index 9 (.string Lib.smalls) (.int .u32 x2)).run Tryz.prog w = .ok (.int .u8 ((sm ((u / 10000) % 100 * 2)).toNat : Int)) w := idx_smalls 9 Tryz.underlying9 .u32 _ _ (by omega) (by omega)
    have hlo2 : 0 ≤ x2 := by omega
    have hhi2 : x2 ≤ 198 := by omega
    clear hx2 hxe2
    go_region_o
    go_wp2_with fail
    go_returns
    have Fin := ((HR2.out.set 2 (dgA (u / 10000)) (by omega)).set 1 (dgB2 (u / 10000)) (by omega))
    have Fin2 := Fin.drew 1
    refine ⟨rfl, _, Fin2, ?_, ?_⟩
    · simp [upd, Hf1.out, Hf2.out]
    · intro i v h
      match i, h with
      | 0, h => simp [fmL] at h; subst h; simp [upd, Hf1.out, Hf2.out]
      | 1, h => simp [fmL] at h; subst h; simp [upd, Hf1.out, Hf2.out]
      | 2, h => simp [fmL] at h; subst h; simp [upd, Hf1.out, Hf2.out]
      | 3, h => simp [fmL] at h; subst h; simp [upd, Hf1.out, Hf2.out]
      | 4, h => simp [fmL] at h; subst h; simp [upd, Hf1.out, Hf2.out]
      | 5, h => simp [fmL] at h; subst h; simp [upd, Hf1.out, Hf2.out]
      | i + 6, h => simp [fmL] at h
set_option maxRecDepth 100000 in
set_option maxHeartbeats 4000000 in
theorem b10_7 (g u : Nat) (hu : u < 2097152) (w w0 : World) (f : Nat → Nat) (hR : R24 w0 w g f) :
    Calls Tryz.prog 189 #[.slice (some ⟨g, 1, none⟩) 7 23, .int .u64 u] w fun e w' => e = .returned (.tuple #[]) ∧ B10 7 u w0 w' g f := by
  have mixed : Tryz.prog.follows .mixedOrders = true := by kernel_rfl
  go_enter Tryz.func189, Tryz.ntmps189
  go_name_bytes SM hSM
  have eSM : SM = Lib.smalls := by rw [← hSM]; decide +kernel
  subst eSM
  clear hSM
  have HR := hid hR
  have c1 := hR.cell 1 (by omega)
  have c2 := hR.cell 2 (by omega)
  have c3 := hR.cell 3 (by omega)
  have c4 := hR.cell 4 (by omega)
  have c5 := hR.cell 5 (by omega)
  have c6 := hR.cell 6 (by omega)
  have c7 := hR.cell 7 (by omega)
  have hF := hR.fz
  clear hR
  go_wp2_with fail
  go_loop [1, 4] (fun u1 u4 => u1 = .int .u64 u ∧ u4 = .int .i64 7) (fun _ _ => 0)
  case atStart => exact ⟨rfl, rfl⟩
  case round =>
    obtain ⟨rfl, rfl⟩ := hrel
    go_wp2_with fail
    go_name_slot 15 x0 hx0
    have hxe0 : x0 = (((u) % 100 * 2 : Nat) : Int) := by omega
    have hXa0 : ∀ w, (Instr.index 9 (.string Lib.smalls) (.int .u32 (x0 + 1))).run Tryz.prog w = .ok (.int .u8 ((sm ((u) % 100 * 2 + 1)).toNat : Int)) w := idx_smalls 9 Tryz.underlying9 .u32 _ _ (by omega) (by omega)
    have hXb0 : ∀ w, (Instr.index 9 (.string Lib.smalls) (.int .u32 x0)).run Tryz.prog w = .ok (.int .u8 ((sm ((u) % 100 * 2)).toNat : Int)) w := idx_smalls 9 Tryz.underlying9 .u32 _ _ (by omega) (by omega)
    have hlo0 : 0 ≤ x0 := by omega
    have hhi0 : x0 ≤ 198 := by omega
    clear hx0 hxe0
    go_region_o
    go_wp2_with fail
    go_name_world W1 hW1
    have R1 := (((HR.out.set 7 (dgA (u)) (by omega)).set 6 (dgB2 (u)) (by omega)).drew 1)
    obtain ⟨f1, hf1⟩ : ∃ f1 : Nat → Nat, f1 = upd (upd f 7 (dgA (u))) 6 (dgB2 (u)) := ⟨_, rfl⟩
    have HR1 : Hid (R24 w0 W1 g f1) := by unfold Hid; rw [← hW1, hf1]; exact R1
    have cF1 := HR1.out.cell
    have hF1 := HR1.out.fz
    have d1_1 := cF1 1 (by omega)
    have d1_2 := cF1 2 (by omega)
    have d1_3 := cF1 3 (by omega)
    have d1_4 := cF1 4 (by omega)
    have d1_5 := cF1 5 (by omega)
    have d1_6 := cF1 6 (by omega)
    have d1_7 := cF1 7 (by omega)
    have Hf1 := hid hf1
    clear hf1 hW1 R1 cF1 hXa0 hXb0 c1 c2 c3 c4 c5 c6 c7 hF
    go_name_slot 14 x1 hx1
    have hxe1 : x1 = (((u / 100) % 100 * 2 : Nat) : Int) := by omega
    have hXa1 : ∀ w, (Instr.index 9 (.string Lib.smalls) (.int .u32 (x1 + 1))).run Tryz.prog w = .ok (.int .u8 ((sm ((u / 100) % 100 * 2 + 1)).toNat : Int)) w := idx_smalls 9 Tryz.underlying9 .u32 _ _ (by omega) (by omega)
    have hXb1 : ∀ w, (Instr.index 9 (.string Lib.smalls) (.int .u32 x1)).run Tryz.prog w = .ok (.int .u8 ((sm ((u / 100) % 100 * 2)).toNat : Int)) w := idx_smalls 9 Tryz.underlying9 .u32 _ _ (by omega) (by omega)
    have hlo1 : 0 ≤ x1 := by omega
    have hhi1 : x1 ≤ 198 := by omega
    clear hx1 hxe1
    go_region_o
    go_wp2_with fail
    go_name_world W2 hW2
    have R2 := (((HR1.out.set 5 (dgA (u / 100)) (by omega)).set 4 (dgB2 (u / 100)) (by omega)).drew 1)
    obtain ⟨f2, hf2⟩ : ∃ f2 : Nat → Nat, f2 = upd (upd f1 5 (dgA (u / 100))) 4 (dgB2 (u / 100)) := ⟨_, rfl⟩
    have HR2 : Hid (R24 w0 W2 g f2) := by unfold Hid; rw [← hW2, hf2]; exact R2
    have cF2 := HR2.out.cell
    have hF2 := HR2.out.fz
    have d2_1 := cF2 1 (by omega)
    have d2_2 := cF2 2 (by omega)
    have d2_3 := cF2 3 (by omega)
    have d2_4 := cF2 4 (by omega)
    have d2_5 := cF2 5 (by omega)
    have d2_6 := cF2 6 (by omega)
    have d2_7 := cF2 7 (by omega)
    have Hf2 := hid hf2
    clear hf2 hW2 R2 cF2 hXa1 hXb1 d1_1 d1_2 d1_3 d1_4 d1_5 d1_6 d1_7 hF1
    go_name_slot 16 x2 hx2
    have hxe2 : x2 = (((u / 10000) % 100 * 2 : Nat) : Int) := by omega
    have hXa2 : ∀ w, (Instr.index 9 (.string Lib.smalls) (.int .u32 (x2 + 1))).run Tryz.prog w = .ok (.int .u8 ((sm ((u / 10000) % 100 * 2 + 1)).toNat : Int)) w := idx_smalls 9 Tryz.underlying9 .u32 _ _ (by omega) (by omega)
    have hXb2 : ∀ w, (Instr.index 9 (.string Lib.smalls) (.int .u32 x2)).run Tryz.prog w = .ok (.int .u8 ((sm ((u / 10000) % 100 * 2)).toNat : Int)) w := idx_smalls 9 Tryz.underlying9 .u32 _ _ (by omega) (by omega)
    have hlo2 : 0 ≤ x2 := by omega
    have hhi2 : x2 ≤ 198 := by omega
    clear hx2 hxe2
    go_region_o
    go_wp2_with fail
    go_returns
    have Fin := (((HR2.out.set 3 (dgA (u / 10000)) (by omega)).set 2 (dgB2 (u / 10000)) (by omega)).set 1 ((48 + u / 1000000) % 256) (by omega))
    have Fin2 := Fin.drew 1
    rw [show (48 + (u : Int) / 10000 / 100 : Int) = (((48 + u / 1000000) % 256 : Nat) : Int) by omega]
    refine ⟨rfl, _, Fin2, ?_, ?_⟩
    · simp [upd, Hf1.out, Hf2.out]
    · intro i v h
      match i, h with
      | 0, h => simp [fmL] at h; subst h; simp [upd, Hf1.out, Hf2.out]
      | 1, h => simp [fmL] at h; subst h; simp [upd, Hf1.out, Hf2.out]
      | 2, h => simp [fmL] at h; subst h; simp [upd, Hf1.out, Hf2.out]
      | 3, h => simp [fmL] at h; subst h; simp [upd, Hf1.out, Hf2.out]
      | 4, h => simp [fmL] at h; subst h; simp [upd, Hf1.out, Hf2.out]
      | 5, h => simp [fmL] at h; subst h; simp [upd, Hf1.out, Hf2.out]
      | 6, h => simp [fmL] at h; subst h; simp [upd, Hf1.out, Hf2.out]
      | i + 7, h => simp [fmL] at h
end Go.Proofs.YtdebjhdafnpfkabGreatDoor

namespace Go.Proofs.YtdebjhdafnpfkabGreatDoor
set_option linter.unusedVariables false
set_option linter.unusedSimpArgs false
theorem app_ne (a b : ByteArray) (h : a.size ≠ 0) : (a ++ b).size ≠ 0 := by rw [ByteArray.size_append]; omega
/-- The paths. -/
def mkN (raw : List Int) : Nat → List ByteArray
  | 0 => []
  | k + 1 => mkN raw k ++ [jn (tabAt raw (k + 1) ++ [nmB k (rw_ raw k)])]
end Go.Proofs.YtdebjhdafnpfkabGreatDoor
