import Derived.Test.YtdebjhdafnpfkaaGreatDoorB19
import Derived.Test.YtdebjhdafnpfkaaGreatDoorB15
import Derived.Test.YtdebjhdafnpfkaaGreatDoorB09
import Derived.Test.YtdebjhdafnpfkaaGreatDoorB08
import Derived.Deep.RegionLaw
import Derived.Deep.Draws
import Derived.Test.YtdebjhdafnpfkaaGreatDoorB03
import Derived.Test.YtdebjhdafnpfkaaGreatDoorB01
import Derived.ChangeSame
import Derived.ChangeVars
import Derived.JoinedOf
import Derived.RowKitTokens
import Derived.LaidLaws
import Derived.LaidHandle
import Derived.HandedShaped
import Derived.Lay
import Derived.Stop.Joined
import Derived.Shelf.Vars
import Derived.ChangeMaps5
import Derived.Test.YtdebjhdafnpfkaaGreatDoorB02
import Derived.Below
namespace Go.Proofs.YtdebjhdafnpfkaaGreatDoor
open Go.RowKit Go.Extern.Stop Go.Stop Go.Extern
set_option linter.unusedVariables false
set_option linter.unusedSimpArgs false
theorem catch_idle (p1 p2 : Addr) (w : World) :
    CallsD Tryz.prog 28 #[.pointer (some p1), .pointer (some p2)] .returning w fun e u' w' => e = .returned (.tuple #[]) ∧ u' = .returning ∧ w' = w := by
  refine callsD_of_wpS Tryz.func28 rfl fun c₀ cs hu => ?_
  apply wpS_seq
  apply wpS_region
  simp [wpOpsS, go_sem, recoverD, hu, Tryz.ntmps28, Exit.thenS]
  refine wpS_of_wp ?_
  go_wp2_with fail
  cases c₀
  simp_all [bodyPostS, results, Tryz.results28]
theorem catch_thrown (b1 b2 q : Nat) (u1 u2 : Value) (w : World) (hg : w.cell? ⟨0, 0, none⟩ = some (.iface 120 (.agg #[.pointer (some ⟨7, 28, none⟩)])))
    (h1 : w.cell? ⟨b1, 0, none⟩ = some u1) (h2 : w.cell? ⟨b2, 0, none⟩ = some u2) (hF1 : w.frozen? ⟨b1, 0, none⟩ = false) (hF2 : w.frozen? ⟨b2, 0, none⟩ = false) (hne : b1 ≠ b2) :
    CallsD Tryz.prog 28 #[.pointer (some ⟨b1, 0, none⟩), .pointer (some ⟨b2, 0, none⟩)] (.panicking ({ v := .iface 84 (.pointer (some ⟨q, 0, none⟩)), recovered := false } :: [])) w fun e u' w' =>
      e = .returned (.tuple #[]) ∧ u' = .panicking ({ v := .iface 84 (.pointer (some ⟨q, 0, none⟩)), recovered := true } :: []) ∧
      ∃ w1, Below w.heap.size w w1 ∧ w' = (w1.setCell ⟨b1, 0, none⟩ (.pointer none)).setCell ⟨b2, 0, none⟩ (.iface 84 (.pointer (some ⟨q, 0, none⟩))) := by
  have Hg : Hid _ := hg
  have l1 := lt_of_cell h1
  have l2 := lt_of_cell h2
  have H1 : Hid _ := h1
  have H2 : Hid _ := h2
  clear hg h1 h2
  refine callsD_of_wpS Tryz.func28 rfl fun c₀ cs hu => ?_
  apply wpS_seq
  apply wpS_region
  simp [wpOpsS, go_sem, recoverD, hu, Tryz.ntmps28, Exit.thenS]
  refine wpS_of_wp ?_
  go_wp2_with fail
  refine (faultOf_any q _ Hg.out).mono ?_
  rintro e w1 ⟨rfl, hB⟩
  have c1 : w1.cell? ⟨b1, 0, none⟩ = some u1 := by rw [hB.cell (p := ⟨b1, 0, none⟩) l1]; exact H1.out
  have c2 : (w1.setCell ⟨b1, 0, none⟩ (.pointer none)).cell? ⟨b2, 0, none⟩ = some u2 := by
    rw [World.cell?_setCell_other _ _ _ _ (by intro e; simp only [Addr.mk.injEq, and_true] at e; exact hne e), hB.cell (p := ⟨b2, 0, none⟩) l2]
    exact H2.out
  have f1 : w1.frozen? ⟨b1, 0, none⟩ = false := by rw [hB.frozen (p := ⟨b1, 0, none⟩) l1]; exact hF1
  have f2 : (w1.setCell ⟨b1, 0, none⟩ (.pointer none)).frozen? ⟨b2, 0, none⟩ = false := by rw [World.frozen?_setCell, hB.frozen (p := ⟨b2, 0, none⟩) l2]; exact hF2
  have HB : Hid (Below w.heap.size w w1) := hB
  clear hB
  go_wp2_with fail
  simp [bodyPostS, results, Tryz.results28]
  exact ⟨w1, HB.out, rfl⟩
/-- What Parse comes to. -/
def ParseP (s : ByteArray) (w : World) (e : Ending) (w' : World) : Prop :=
  ((rread s).1.e = 0 ∧ ∃ d q, e = .returned (.tuple #[ptr d, .nilIface]) ∧ w.heap.size ≤ d ∧ d < w'.heap.size ∧ w'.cell? ⟨d, 0, none⟩ = some (ptr q) ∧ SheetOk w w' q (rread s).2 ∧ Below w.heap.size w w') ∨
  ((rread s).1.e ≠ 0 ∧ ∃ q, e = .returned (.tuple #[.pointer none, .iface 84 (ptr q)]) ∧ q < w'.heap.size ∧ w'.cell? ⟨q, 0, none⟩ = some (.int .i64 (rread s).1.e) ∧ w'.cell? ⟨q, 1, none⟩ = some (.int .i64 (rlineNo s (rread s).1)) ∧ Below w.heap.size w w')
theorem SheetOk.frame {w0 w1 w w' : World} {q : Nat} {items : List It} (h : SheetOk w1 w q items) (h0 : w0.heap.size ≤ w1.heap.size) (hz : w.heap.size ≤ w'.heap.size) (hb : ∀ k, w1.heap.size ≤ k → k < w.heap.size → w'.heap[k]? = w.heap[k]?) : SheetOk w0 w' q items := by
  obtain ⟨h1, h2, h3, b, nb, hv, pv, ev, es, a1, a2, a3, a4, a5⟩ := h
  refine ⟨h1, h2, Nat.lt_of_lt_of_le h3 hz, b, nb, hv, pv, ev, es, Nat.le_trans h0 a1, a2, a3, ?_, ?_⟩
  · exact (World.cell?_of_block (w := w) (hb q (by omega) h3)).trans a4
  · have hbb := hb b a1 (by omega)
    exact a5.frame (fun o _ => World.cell?_of_block (w := w) hbb) hz (fun k k1 k2 => hb k (by omega) k2)
set_option maxHeartbeats 2000000 in
theorem parse_any (s : ByteArray) (w : World) (m : Int) (hs63 : s.size ≤ 4611686018427387904) (hm : w.cell? ⟨1, 0, none⟩ = some (.int .i64 m))
    (hg : w.cell? ⟨0, 0, none⟩ = some (.iface 120 (.agg #[.pointer (some ⟨7, 28, none⟩)]))) :
    Calls Tryz.prog 11 #[.string s] w fun e w' => ParseP s w e w' := by
  have hmf : ∀ (fn : Fn) (first cap : Array Value) (w : World), (Instr.makeFunc fn first cap).run Tryz.prog w = .ok (.func fn first cap) w := fun _ _ _ _ => rfl
  have lm := lt_of_cell hm
  have lg := lt_of_cell hg
  have Hm : Hid (((w.alloc (.cells #[.pointer none] 26)).alloc (.cells #[.nilIface] 28)).cell? ⟨1, 0, none⟩ = some (.int .i64 m)) := by
    unfold Hid
    rw [World.cell?_alloc_lt _ _ ⟨1, 0, none⟩ (by simp <;> omega), World.cell?_alloc_lt _ _ ⟨1, 0, none⟩ lm]
    exact hm
  have Hg : Hid (((w.alloc (.cells #[.pointer none] 26)).alloc (.cells #[.nilIface] 28)).cell? ⟨0, 0, none⟩ = some (.iface 120 (.agg #[.pointer (some ⟨7, 28, none⟩)]))) := by
    unfold Hid
    rw [World.cell?_alloc_lt _ _ ⟨0, 0, none⟩ (by simp <;> omega), World.cell?_alloc_lt _ _ ⟨0, 0, none⟩ lg]
    exact hg
  have W2 : Hid (((w.alloc (.cells #[.pointer none] 26)).alloc (.cells #[.nilIface] 28)).heap.size = w.heap.size + 2 ∧ ((w.alloc (.cells #[.pointer none] 26)).alloc (.cells #[.nilIface] 28)).cell? ⟨w.heap.size, 0, none⟩ = some (.pointer none) ∧
      ((w.alloc (.cells #[.pointer none] 26)).alloc (.cells #[.nilIface] 28)).cell? ⟨w.heap.size + 1, 0, none⟩ = some .nilIface ∧ ((w.alloc (.cells #[.pointer none] 26)).alloc (.cells #[.nilIface] 28)).frozen? ⟨w.heap.size, 0, none⟩ = false ∧
      ((w.alloc (.cells #[.pointer none] 26)).alloc (.cells #[.nilIface] 28)).frozen? ⟨w.heap.size + 1, 0, none⟩ = false ∧ Below w.heap.size w ((w.alloc (.cells #[.pointer none] 26)).alloc (.cells #[.nilIface] 28))) :=
    ⟨by simp, by simp, by simp, by simp, by simp, ((Below.refl _ _).alloc (Nat.le_refl _) _).alloc (by simp) _⟩
  clear hm hg
  go_enter_defers Tryz.func11, Tryz.ntmps11
  go_wp2_with fail
  generalize (w.alloc (.cells #[.pointer none] 26)).alloc (.cells #[.nilIface] 28) = w2 at *
  obtain ⟨z2, c0, c1, f0, f1, b2⟩ := W2.out
  refine (pread_any s _ m hs63 Hm.out).mono ?_
  rintro e w3 (⟨h0, q, rfl, hq1, hsh, hB⟩ | ⟨h0, q, hq⟩)
  · have d0 : w3.cell? ⟨w.heap.size, 0, none⟩ = some (.pointer none) := by rw [hB.cell (p := ⟨w.heap.size, 0, none⟩) (by simp only; omega)]; exact c0
    have d1 : w3.cell? ⟨w.heap.size + 1, 0, none⟩ = some .nilIface := by rw [hB.cell (p := ⟨w.heap.size + 1, 0, none⟩) (by simp only; omega)]; exact c1
    have g0 : w3.frozen? ⟨w.heap.size, 0, none⟩ = false := by rw [hB.frozen (p := ⟨w.heap.size, 0, none⟩) (by simp only; omega)]; exact f0
    have g1 : w3.frozen? ⟨w.heap.size + 1, 0, none⟩ = false := by rw [hB.frozen (p := ⟨w.heap.size + 1, 0, none⟩) (by simp only; omega)]; exact f1
    have l3 : w.heap.size + 1 < w3.heap.size := by have := hB.size; omega
    have HH : Hid ((rread s).1.e = 0 ∧ w2.heap.size ≤ q ∧ SheetOk w2 w3 q (rread s).2 ∧ Below w2.heap.size w2 w3) := ⟨h0, hq1, hsh, hB⟩
    have e0 : ∀ o, (w3.alloc o).cell? ⟨w.heap.size, 0, none⟩ = some (.pointer none) := fun o => by rw [World.cell?_alloc_lt _ _ ⟨w.heap.size, 0, none⟩ (by simp only; omega)]; exact d0
    have e1 : ∀ o v, ((w3.setCell ⟨w.heap.size, 0, none⟩ v).alloc o).cell? ⟨w.heap.size + 1, 0, none⟩ = some .nilIface := fun o v => by
      rw [World.cell?_alloc_lt _ _ ⟨w.heap.size + 1, 0, none⟩ (by simp [World.setCell]; omega), World.cell?_setCell_other _ _ _ _ (by intro e; simp only [Addr.mk.injEq, and_true] at e; omega)]; exact d1
    have e2 : ∀ o v, ((w3.alloc o).setCell ⟨w.heap.size, 0, none⟩ v).cell? ⟨w.heap.size + 1, 0, none⟩ = some .nilIface := fun o v => by
      rw [World.cell?_setCell_other _ _ _ _ (by intro e; simp only [Addr.mk.injEq, and_true] at e; omega), World.cell?_alloc_lt _ _ ⟨w.heap.size + 1, 0, none⟩ (by simp only; omega)]; exact d1
    have k0 : ∀ o, (w3.alloc o).frozen? ⟨w.heap.size, 0, none⟩ = false := fun o => by rw [World.frozen?_alloc_old _ _ _ (by simp only; omega)]; exact g0
    have k1 : ∀ o v, ((w3.setCell ⟨w.heap.size, 0, none⟩ v).alloc o).frozen? ⟨w.heap.size + 1, 0, none⟩ = false := fun o v => by
      rw [World.frozen?_alloc_old _ _ _ (by simp [World.setCell]; omega), World.frozen?_setCell]; exact g1
    have k2 : ∀ o v, ((w3.alloc o).setCell ⟨w.heap.size, 0, none⟩ v).frozen? ⟨w.heap.size + 1, 0, none⟩ = false := fun o v => by
      rw [World.frozen?_setCell, World.frozen?_alloc_old _ _ _ (by simp only; omega)]; exact g1
    clear h0 hq1 hsh hB c0 c1 f0 f1 W2
    go_wp2_with fail
    have FW : ParseP s w (.returned (.tuple #[ptr w3.heap.size, .nilIface])) (((w3.alloc (.cells #[ptr q] 68)).setCell ⟨w.heap.size, 0, none⟩ (ptr w3.heap.size)).setCell ⟨w.heap.size + 1, 0, none⟩ .nilIface) := by
      obtain ⟨h0, hq1, hsh, hB⟩ := HH.out
      have hz : (((w3.alloc (.cells #[ptr q] 68)).setCell ⟨w.heap.size, 0, none⟩ (ptr w3.heap.size)).setCell ⟨w.heap.size + 1, 0, none⟩ .nilIface).heap.size = w3.heap.size + 1 := by simp [World.setCell]
      have hk : ∀ k, w2.heap.size ≤ k → (((w3.alloc (.cells #[ptr q] 68)).setCell ⟨w.heap.size, 0, none⟩ (ptr w3.heap.size)).setCell ⟨w.heap.size + 1, 0, none⟩ .nilIface).heap[k]? = (w3.alloc (.cells #[ptr q] 68)).heap[k]? := fun k hk => by
        rw [Below.heap_setCell _ _ _ _ (by simp only; omega), Below.heap_setCell _ _ _ _ (by simp only; omega)]
      refine .inl ⟨h0, w3.heap.size, q, rfl, by omega, by rw [hz]; omega, ?_, ?_, ?_⟩
      · rw [World.cell?_of_block (w := w3.alloc (.cells #[ptr q] 68)) (hk w3.heap.size (by omega)), World.cell?_alloc_at _ _ _ _ rfl]
        rfl
      · refine hsh.frame (by omega) (by rw [hz]; omega) (fun k k1 k2 => ?_)
        rw [hk k k1]
        exact Below.heap_alloc _ _ _ k2
      · exact (((b2.trans (hB.mono (by omega))).alloc (by omega) _).setCell (p := ⟨w.heap.size, 0, none⟩) (Nat.le_refl _) _).setCell (p := ⟨w.heap.size + 1, 0, none⟩) (Nat.le_succ _) _
    have cA : (((w3.alloc (.cells #[ptr q] 68)).setCell ⟨w.heap.size, 0, none⟩ (ptr w3.heap.size)).setCell ⟨w.heap.size + 1, 0, none⟩ .nilIface).cell? ⟨w.heap.size, 0, none⟩ = some (ptr w3.heap.size) := by
      rw [World.cell?_setCell_other _ _ _ _ (by intro e; simp only [Addr.mk.injEq, and_true] at e; omega)]
      exact World.cell?_setCell_same _ _ _ (e0 _)
    have cB : (((w3.alloc (.cells #[ptr q] 68)).setCell ⟨w.heap.size, 0, none⟩ (ptr w3.heap.size)).setCell ⟨w.heap.size + 1, 0, none⟩ .nilIface).cell? ⟨w.heap.size + 1, 0, none⟩ = some .nilIface := World.cell?_setCell_same _ _ _ (e2 _ _)
    have HFW : Hid _ := FW
    clear FW HH e0 e1 e2 k0 k1 k2 d0 d1 g0 g1
    generalize ((w3.alloc (.cells #[ptr q] 68)).setCell ⟨w.heap.size, 0, none⟩ (ptr w3.heap.size)).setCell ⟨w.heap.size + 1, 0, none⟩ .nilIface = W at *
    refine leaves_cons (f := 28) (args := #[.pointer (some ⟨w.heap.size, 0, none⟩), .pointer (some ⟨w.heap.size + 1, 0, none⟩)]) (by simp) (by simp [go_sem]) ?_
    refine (catch_idle _ _ _).mono ?_
    rintro e u' w'' ⟨rfl, rfl, rfl⟩
    simp [Leaves, settle, results, Tryz.results11, go_sem, cA, cB]
    exact HFW.out
  · have hqe := hq.e
    subst hqe
    have HH : Hid ((rread s).1.e ≠ 0 ∧ Thrown w2 (.panicked [{ v := .iface 84 (.pointer (some ⟨q, 0, none⟩)), recovered := false }]) w3 (rread s).1.e (rlineNo s (rread s).1) q) := ⟨h0, hq⟩
    have hB := hq.bel
    have d0 : w3.cell? ⟨w.heap.size, 0, none⟩ = some (.pointer none) := by rw [hB.cell (p := ⟨w.heap.size, 0, none⟩) (by simp only; omega)]; exact c0
    have d1 : w3.cell? ⟨w.heap.size + 1, 0, none⟩ = some .nilIface := by rw [hB.cell (p := ⟨w.heap.size + 1, 0, none⟩) (by simp only; omega)]; exact c1
    have g0 : w3.frozen? ⟨w.heap.size, 0, none⟩ = false := by rw [hB.frozen (p := ⟨w.heap.size, 0, none⟩) (by simp only; omega)]; exact f0
    have g1 : w3.frozen? ⟨w.heap.size + 1, 0, none⟩ = false := by rw [hB.frozen (p := ⟨w.heap.size + 1, 0, none⟩) (by simp only; omega)]; exact f1
    have hg3 : w3.cell? ⟨0, 0, none⟩ = some (.iface 120 (.agg #[.pointer (some ⟨7, 28, none⟩)])) := by rw [hB.cell (p := ⟨0, 0, none⟩) (by simp only; omega)]; exact Hg.out
    clear h0 hq hB c0 c1 f0 f1 W2
    refine leaves_cons (f := 28) (args := #[.pointer (some ⟨w.heap.size, 0, none⟩), .pointer (some ⟨w.heap.size + 1, 0, none⟩)]) (by simp) (by simp [go_sem]) ?_
    refine (catch_thrown w.heap.size (w.heap.size + 1) q (.pointer none) .nilIface _ hg3 d0 d1 g0 g1 (by omega)).mono ?_
    rintro e u' w'' ⟨rfl, rfl, w4, hB4, rfl⟩
    obtain ⟨h0, hq⟩ := HH.out
    have hB := hq.bel
    have z3 := hB.size
    have z4 := hB4.size
    have qge := hq.ge
    have qlt := hq.lt
    have cA : ((w4.setCell ⟨w.heap.size, 0, none⟩ (.pointer none)).setCell ⟨w.heap.size + 1, 0, none⟩ (.iface 84 (.pointer (some ⟨q, 0, none⟩)))).cell? ⟨w.heap.size, 0, none⟩ = some (.pointer none) := by
      rw [World.cell?_setCell_other _ _ _ _ (by intro e; simp only [Addr.mk.injEq, and_true] at e; omega)]
      exact World.cell?_setCell_same _ _ _ (by rw [hB4.cell (p := ⟨w.heap.size, 0, none⟩) (by simp only; omega)]; exact d0)
    have cB : ((w4.setCell ⟨w.heap.size, 0, none⟩ (.pointer none)).setCell ⟨w.heap.size + 1, 0, none⟩ (.iface 84 (.pointer (some ⟨q, 0, none⟩)))).cell? ⟨w.heap.size + 1, 0, none⟩ = some (.iface 84 (.pointer (some ⟨q, 0, none⟩))) := by
      refine World.cell?_setCell_same _ _ _ (u := .nilIface) ?_
      rw [World.cell?_setCell_other _ _ _ _ (by intro e; simp only [Addr.mk.injEq, and_true] at e; omega), hB4.cell (p := ⟨w.heap.size + 1, 0, none⟩) (by simp only; omega)]
      exact d1
    have hqk : ((w4.setCell ⟨w.heap.size, 0, none⟩ (.pointer none)).setCell ⟨w.heap.size + 1, 0, none⟩ (.iface 84 (.pointer (some ⟨q, 0, none⟩)))).heap[q]? = w3.heap[q]? := by
      rw [Below.heap_setCell _ _ _ _ (by simp only; omega), Below.heap_setCell _ _ _ _ (by simp only; omega)]
      exact hB4.block q qlt
    have FW : ParseP s w (.returned (.tuple #[.pointer none, .iface 84 (ptr q)])) ((w4.setCell ⟨w.heap.size, 0, none⟩ (.pointer none)).setCell ⟨w.heap.size + 1, 0, none⟩ (.iface 84 (.pointer (some ⟨q, 0, none⟩)))) := by
      refine .inr ⟨h0, q, rfl, by simp [World.setCell]; omega, (World.cell?_of_block (w := w3) hqk).trans hq.K, (World.cell?_of_block (w := w3) hqk).trans hq.L, ?_⟩
      exact (((b2.trans (hB.mono (by omega))).trans (hB4.mono (by omega))).setCell (p := ⟨w.heap.size, 0, none⟩) (Nat.le_refl _) _).setCell (p := ⟨w.heap.size + 1, 0, none⟩) (Nat.le_succ _) _
    have HFW : Hid _ := FW
    clear FW hqk
    generalize (w4.setCell ⟨w.heap.size, 0, none⟩ (.pointer none)).setCell ⟨w.heap.size + 1, 0, none⟩ (.iface 84 (.pointer (some ⟨q, 0, none⟩))) = W at *
    simp [Leaves, settle, results, Tryz.results11, go_sem, cA, cB]
    exact HFW.out
end Go.Proofs.YtdebjhdafnpfkaaGreatDoor

namespace Go.Proofs.YtdebjhdafnpfkaaGreatDoor
open Go.ChangeShapes Go.WideShapes Go.ChangeAt Go.RowKit
set_option linter.unusedVariables false
theorem Its.alloc {w : World} {b : Nat} {it : Value} {cs : List (List Value)} {items : List It} (h : Its w b it cs items) (o : Obj) : Its (w.alloc o) b it cs items :=
  h.frame (by simp) (fun k _ k2 => Below.heap_alloc _ _ _ k2)
theorem Its.lt {w : World} {b : Nat} {it : Value} {cs : List (List Value)} {items : List It} (h : Its w b it cs items) (k : Nat) (hk : it.ownBlock = some k) : b < k ∧ k < w.heap.size := by
  have := h.2.1.lt k hk
  omega
/-- One more: its cells behind the others'. -/
theorem Its.snoc {w w' : World} {b : Nat} {it v : Value} {cs : List (List Value)} {items : List It} {c : List Value} {t : It} {lo hi : Nat} (h : Its w b it cs items) (hg : w.grownBy w' it.ownBlock)
    (ho : w'.ownsRow (b + 1) 72 5 v (items.length + 1) (cs.flatten ++ c)) (ha : v.ownBlock = it.ownBlock ∨ v.ownBlock = some w.heap.size)
    (h1 : b < lo) (h2 : hi ≤ w.heap.size) (h3 : ∀ k, it.ownBlock = some k → k < lo) (hr : RIt lo hi w c t) : Its w' b v (cs ++ [c]) (items ++ [t]) := by
  refine ⟨by simp [h.1], by simpa using ho, fun i c' t' hc ht => ?_⟩
  have key : ∀ lo' hi', b < lo' → hi' ≤ w.heap.size → (∀ k, it.ownBlock = some k → ¬ (lo' ≤ k ∧ k < hi')) → RIt lo' hi' w c' t' → ∃ lo hi, b < lo ∧ hi ≤ w'.heap.size ∧ (∀ k, v.ownBlock = some k → ¬ (lo ≤ k ∧ k < hi)) ∧ RIt lo hi w' c' t' := by
    intro lo' hi' a1 a2 a3 a4
    refine ⟨lo', hi', a1, Nat.le_trans a2 hg.size, fun k hk => ?_, a4.frame (fun k k1 k2 => hg.block k (by omega) (fun e => a3 k e.symm ⟨k1, k2⟩))⟩
    rcases ha with e | e
    · exact a3 k (e ▸ hk)
    · rw [e] at hk
      cases hk
      omega
  by_cases hi' : i < cs.length
  · rw [List.getElem?_append_left hi'] at hc
    rw [List.getElem?_append_left (by rw [← h.1]; exact hi')] at ht
    obtain ⟨lo', hi2, a1, a2, a3, a4⟩ := h.2.2 i c' t' hc ht
    exact key lo' hi2 a1 a2 a3 a4
  · rw [List.getElem?_append_right (by omega)] at hc
    rw [List.getElem?_append_right (by rw [← h.1]; omega)] at ht
    have e : i - cs.length = 0 := by
      have := (List.getElem?_eq_some_iff.1 hc).1
      simp at this
      omega
    rw [e] at hc
    rw [← h.1, e] at ht
    simp only [List.getElem?_cons_zero, Option.some.injEq] at hc ht
    subst hc ht
    exact key lo hi h1 h2 (fun k hk hc => by have := h3 k hk; omega) hr
end Go.Proofs.YtdebjhdafnpfkaaGreatDoor

namespace Go.Proofs.YtdebjhdafnpfkaaGreatDoor
open Go.ChangeShapes Go.WideShapes Go.ChangeAt Go.RowKit
set_option linter.unusedVariables false
theorem Its.drew {w : World} {b : Nat} {it : Value} {cs : List (List Value)} {items : List It} (h : Its w b it cs items) : Its w.drew b it cs items := h.frame (Nat.le_refl _) (fun _ _ _ => rfl)
end Go.Proofs.YtdebjhdafnpfkaaGreatDoor

namespace Go.Proofs.YtdebjhdafnpfkaaGreatDoor
open Go.ChangeShapes Go.WideShapes Go.ChangeAt Go.RowKit
set_option linter.unusedVariables false
set_option linter.unusedSimpArgs false
/-- Both Docs, as they lie. -/
def Both (s : ByteArray) (w0 w : World) (o : Nat) : Prop :=
  ∃ d r q it cs, w.cell? ⟨o, 0, none⟩ = some (ptr d) ∧ w.cell? ⟨o, 1, none⟩ = some (ptr r) ∧ w.cell? ⟨d, 0, none⟩ = some (ptr q) ∧ SheetOk w0 w q (rread s).2 ∧ RD w r s (rread s).1 it ∧ Its w r it cs (rread s).2 ∧ w0.heap.size ≤ d ∧ d < r ∧ r < o ∧ o < w.heap.size
end Go.Proofs.YtdebjhdafnpfkaaGreatDoor

namespace Go.Proofs.YtdebjhdafnpfkaaGreatDoor
open Go.ChangeShapes Go.WideShapes Go.ChangeAt Go.ChangeMaps Go.RowKit
set_option linter.unusedVariables false
set_option linter.unusedSimpArgs false
theorem Tryz.own : ownKnob Tryz.prog.godebug = none := by kernel_rfl
theorem et_at : Tryz.prog.globalNamed "errors.errorType" = some 0 := by kernel_rfl
theorem rt_at : (Tryz.prog.cutTypes.find? (·.1 == "internal/reflectlite.rtype")).map (·.2) = some 120 := by kernel_rfl
theorem one_error : ((List.range 302).filter fun t => Tryz.prog.rowNamed t [101, 114, 114, 111, 114]) = [28] := by kernel_rfl
theorem types_size : Tryz.prog.types.size = 302 := by kernel_rfl
/-- What the three rows list. -/
def theLaid : List (String × DataW Unit) := [("unicode/utf8.acceptRanges", Rows.laid_unicode_utf8_acceptRanges), ("errors.errorType", Rows.laid_errors_errorType), ("unicode/utf8.first", Rows.laid_unicode_utf8_first)]
def theData : List (String × DataW Unit) := [("unicode/utf8.acceptRanges", Rows.laid_unicode_utf8_acceptRanges), ("unicode/utf8.first", Rows.laid_unicode_utf8_first)]
theorem handle_of_laid {W : World} (h : laidMetH Tryz.prog theLaid W) : W.cell? ⟨0, 0, none⟩ = some (.iface 120 (.agg #[.pointer (some ⟨7, 28, none⟩)])) := by
  have h' : laidMet Tryz.prog theData W ∧ handlesMet Tryz.prog [("errors.errorType", Rows.laid_errors_errorType)] W := h
  obtain ⟨name, u, ty, e1, e2, e3, e4, e5⟩ := h'.2 _ (List.mem_singleton.2 rfl)
  have en : name = [101, 114, 114, 111, 114] := (Option.some.inj e1).symm
  subst en
  obtain rfl := Option.some.inj (rt_at.symm.trans e2)
  have hm : ty ∈ (List.range 302).filter fun t => Tryz.prog.rowNamed t [101, 114, 114, 111, 114] := List.mem_filter.2 ⟨List.mem_range.2 (by rw [← types_size]; exact e3), e4⟩
  rw [one_error] at hm
  obtain rfl := List.mem_singleton.1 hm
  have hh : typeHandle Tryz.prog 28 = .pointer (some ⟨7, 28, none⟩) := by kernel_rfl
  rw [hh] at e5
  simpa using World.var?_cell et_at e5 0
theorem maxLen_of_shape {W : World} (h : W.ShapedOpen Tryz.prog) : ∃ m, W.cell? ⟨1, 0, none⟩ = some (.int .i64 m) :=
  cell_of_shapedOpen_int (zero := #[.int .i64 0]) (t := 3) h (of_decide_eq_true (by kernel_rfl)) (by kernel_rfl) rfl (by kernel_rfl) (by kernel_rfl) Tryz.underlying3
/-- The one handle laid into a world (over the tables laid, 'World.laidAll': a world that meets the condition). -/
def withHandle (w0 : World) : World :=
  { w0 with heap := w0.heap.modify 0 fun
      | .cells _ t frozen => .cells #[.iface 120 (.agg #[.pointer (some ⟨7, 28, none⟩)])] t frozen
      | o => o }
theorem laidWorld_os (os : Os) : (withHandle (World.laidAll Tryz.prog os theData)).os = os := by
  unfold withHandle
  dsimp only
  exact World.laidAll_os _ _ _
theorem laidWorld_met (os : Os) (args : Array Value) : laidMetH Tryz.prog theLaid ((withHandle (World.laidAll Tryz.prog os theData)).forCall (fun _ _ => 0) ⟨#[], args, []⟩).memory :=
  laidMetH_of_parts (laidMet_of_run' 8 (by kernel_rfl) (by kernel_rfl)) (by kernel_rfl)
/-- The wrap that keeps both: what is listed, and the world's shape. -/
theorem handed_both {H : Type} {enc : TypeId × Value → H} {a : Assume} {C : Checked} {os : Os} {f : FuncId} {fn : Func} {s : ChangeSpec} {conds : List PathCond} {apart fresh handsOn again : Bool} {X : World → Array Value → Prop}
    (hX : ∀ (w w' : World) (args : Array Value), w.heap = w'.heap → X w args → X w' args)
    (own : ownKnob C.prog.godebug = none) (started : os.Started) (noInit : C.prog.inits.idxOf? f = none) (hfn : C.prog.funcs[f]? = some fn)
    (witness : ∃ (w : World) (tape : Tape) (i : Input), w.os = os ∧ (w.forCall tape i).Shaped C.prog ∧ i.vars = [] ∧ Input.okWide C.prog (w.forCall tape i) .any w.heap.size f i ∧
      ((s.pre enc C.prog fn conds apart (w.forCall tape i).memory i.args ∧ X (w.forCall tape i).memory i.args) ∧ sizedMet enc C.prog fn (OpenSpec.ofChange s) apart (w.forCall tape i).memory i.args) ∧ a.holds C.prog (lone (Frame.enter C.prog f i.args .normal) [] (w.forCall tape i)))
    (contract : ∀ (W : World) (base : Nat) (args : Array Value) (ds gs : List (DataW H)) (before : List MemPlace),
      (∀ (j : Nat) t v, fn.params[j]? = some t → args[j]? = some v → Value.okWide C.prog W .any base t v) →
      DataW.Whole enc C.prog fn.params.toList s.vars apart W args.toList ds gs before →
      (DataW.weightsEach C.prog (fn.params.toList ++ s.plain.varTypes C.prog) (ds ++ gs)).all (· ≤ reachBytes) = true → X W args → W.ShapedOpen C.prog →
      Calls C.prog f args W fun e W' => ∃ v, e = .returned v ∧ s.post enc C.prog fn apart fresh handsOn again W args v W') :
    ReturnsInHanded a C os f .any (fun w args => (s.pre enc C.prog fn conds apart w args ∧ X w args) ∧ sizedMet enc C.prog fn (OpenSpec.ofChange s) apart w args) (s.post enc C.prog fn apart fresh handsOn again) := by
  refine returnsInHanded_of_calls own started noInit witness ?_
  intro w tape i _ hsh _ hok hpre hholds
  obtain ⟨_, _, _, fn', hfn', _, _, _, _, hval⟩ := hok
  obtain rfl : fn' = fn := Option.some.inj (hfn'.symm.trans hfn)
  obtain ⟨⟨⟨ds, gs, before, hw, hc⟩, hx⟩, hz⟩ := hpre
  have hw' := DataW.Whole.of_heap (w' := w.forCall tape i) (by rfl) hw
  refine (contract (w.forCall tape i) w.heap.size i.args ds gs before hval hw' (hz.weights hw) (hX _ _ _ (by rfl) hx) hsh).mono fun e W' ⟨v, he, hp⟩ => ?_
  subst he
  exact ChangeSpec.post_blind hp
end Go.Proofs.YtdebjhdafnpfkaaGreatDoor

namespace Go.Proofs.YtdebjhdafnpfkaaGreatDoor
open Go.ChangeShapes Go.WideShapes Go.ChangeAt Go.RowKit
set_option linter.unusedVariables false
set_option linter.unusedSimpArgs false
theorem qbelow_drewN {B : Nat} {w w' : World} (h : Below B w w') (n : Nat) : Below B w (w'.drewN n) := by
  induction n with
  | zero => exact h
  | succ n ih => exact ih.drew
end Go.Proofs.YtdebjhdafnpfkaaGreatDoor
