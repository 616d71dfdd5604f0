import Derived.Test.YtdebjhdafnpfkabGreatDoorK30
import Derived.Test.YtdebjhdafnpfkabGreatDoorK29
namespace Go.Proofs.YtdebjhdafnpfkabGreatDoor
open Go.ChangeShapes Go.WideShapes Go.ChangeAt Go.RowKit
set_option linter.unusedVariables false
set_option linter.unusedSimpArgs false
set_option maxHeartbeats 1000000 in
set_option maxRecDepth 100000 in
theorem bcheck_used (B b : Nat) (bs : List Value) (w : World) (h : Lib.BuilderAt 86 5 B b (.pointer (some ⟨b, 0, none⟩)) bs w) :
    Calls Tryz.prog 78 #[.pointer (some ⟨b, 0, none⟩)] w fun e w' => e = .returned (.tuple #[]) ∧ w' = w := by
  obtain ⟨j, hj, _⟩ := Option.map_eq_some_iff.1 size_builder
  have h0 := h.cell0
  clear h
  go_enter Tryz.func78, Tryz.ntmps78
  go_wp2
  rw [Lib.run_neq_ptr_same w _ Tryz.underlying84 hj]
  go_wp2
  go_end0
  exact ⟨rfl, rfl⟩
/-- Where the row lies behind an append of a text. -/
theorem string_at {P : Program} {w w' : World} {base : Nat} {t u ty e : TypeId} {i : TypeInfo} (ht : P.underlying t = some (.slice e)) (hu : P.underlying u = some .string) (hi : P.info? e = some i) (hz : i.zero = some (.int .u8 0)) (hsize : i.size = 1) (hby : i.bytes = 1)
    {v v' : Value} {n : Nat} {xs : List Value} (hown : w.ownsRow base e 1 v n xs) (hn : v ≠ .slice none 0 0) (s : ByteArray) (hbytes : n + s.size ≤ 140737488355328) (hr : (Builtin.append_ #[t, u] ty #[v, .string s]).run P w = .ok v' w') : v'.ownBlock = v.ownBlock ∨ v'.ownBlock = some w.heap.size := by
  rcases hown.2 with ⟨rfl, _⟩ | ⟨g, cap, cur, rfl, hbg, hg, hnc, hcm, hcs, htake⟩
  · exact absurd rfl hn
  · have hxl : xs.length = n := by simpa using hown.1
    by_cases hroom : n + s.size ≤ cap
    · have hcs' : cur.size = cap := by simpa using hcs
      have h2 := Lib.run_append_room_string (P := P) w t u ty e i ht hu hi hsize g n cap cur hg s hroom (by omega)
      rw [h2] at hr
      cases hr
      exact .inl rfl
    · have holds : ∀ j u, xs[j]? = some u → w.cell? ((⟨g, 0, none⟩ : Addr).add j) = some u := hown.cells (g := g) rfl
      have h2 := Lib.run_append_grow_string (P := P) w t u ty e i (.int .u8 0) ht hu hi hz ⟨g, 0, none⟩ n cap xs (by rw [hsize]; simpa using hxl) holds s (by omega) (by omega) (by rw [hby]; exact growslice_fits (by omega) (by omega))
      rw [h2] at hr
      cases hr
      exact .inr rfl
theorem wp_string_at {P : Program} {w : World} {ops : Array Oper} {rest : List Oper} {o : Oper} {a : Act} {Q : Exit → Act → World → Prop} (hgd : o.guard = none) (sl x : Operand) (t u : TypeId)
    (ho : o.op = .call { callee := .builtin .append, args := #[sl, x], argTypes := #[t, u] })
    (base : Nat) (e : TypeId) (i : TypeInfo) (ht : P.underlying t = some (.slice e)) (hu : P.underlying u = some .string) (hi : P.info? e = some i) (hz : i.zero = some (.int .u8 0))
    (hsize : i.size = 1) (hby : i.bytes = 1)
    (v : Value) (n : Nat) (xs : List Value) (hs : a.eval sl = v) (hown : w.ownsRow base e 1 v n xs) (hn : v ≠ .slice none 0 0) (s : ByteArray) (hx : a.eval x = .string s)
    (h63 : n + s.size ≤ maxLen) (hbytes : n + s.size ≤ 140737488355328) (hbase : base ≤ w.heap.size)
    (h : ∀ v' w', w'.ownsRow base e 1 v' (n + s.size) (xs ++ Lib.strCells s) → w.grownBy w' v.ownBlock → (v'.ownBlock = v.ownBlock ∨ v'.ownBlock = some w.heap.size) → wpList P ops Q rest (a.put o.dst v') w') : wpList P ops Q (o :: rest) a w := by
  refine wpList_plain hgd fun K hK => ?_
  obtain ⟨v', w', hr, h2, h3, h4⟩ := Lib.run_append_own_string (P := P) w base t u o.type e i ht hu hi hz hsize hby v n xs hown s h63 hbytes hbase
  have h5 := string_at ht hu hi hz hsize hby hown hn s hbytes hr
  unfold Oper.wp execOp
  simp only [ho, resolve, invoke, builtin, Sem.run_bind, Sem.run_pure, Result.andThen_ok, List.map_toArray, List.map_cons, List.map_nil, hs, hx, hr]
  exact hK _ _ (h v' w' h2 h3 h5)
theorem byteCells_app (l m : List UInt8) : Lib.byteCells (l ++ m) = Lib.byteCells l ++ Lib.byteCells m := by simp [Lib.byteCells]
/-- A Builder that was written to; x: a block that is not its row. -/
def BX (B b x : Nat) (l : List UInt8) (w : World) : Prop :=
  B ≤ b ∧ x ≠ b ∧ x < w.heap.size ∧ l ≠ [] ∧ ∃ v, w.heap[b]? = some (.cells #[.pointer (some ⟨b, 0, none⟩), v] 86 (0, 0)) ∧ w.ownsRow B 5 1 v l.length (Lib.byteCells l) ∧ v.ownBlock ≠ some b ∧ v.ownBlock ≠ some x
theorem BX.at_ {B b x : Nat} {l : List UInt8} {w : World} (h : BX B b x l w) : Lib.BuilderAt 86 5 B b (.pointer (some ⟨b, 0, none⟩)) (Lib.byteCells l) w := by
  obtain ⟨h1, _, _, _, v, h2, h3, h4, _⟩ := h
  exact ⟨h1, v, h2, by rw [Lib.byteCells_length]; exact h3, h4⟩
theorem BX.put {B b x : Nat} {m : List UInt8} {w2 : World} {v v' : Value} (hB : B ≤ b) (hxb : x ≠ b) (hx : x < w2.heap.size) (hm : m ≠ []) (hb : w2.heap[b]? = some (.cells #[.pointer (some ⟨b, 0, none⟩), v] 86 (0, 0))) (hown : w2.ownsRow B 5 1 v' m.length (Lib.byteCells m)) (hox : v'.ownBlock ≠ some x) : BX B b x m (w2.setCell ⟨b, 1, none⟩ v') := by
  have hne := Lib.ownBlock_ne hown hb (by decide)
  refine ⟨hB, hxb, by simpa [World.setCell] using hx, hm, v', ?_, ?_, hne, hox⟩
  · simp [World.setCell, Array.getElem?_modify, hb]
  · exact hown.kept (row := some b) ⟨rfl, rfl, rfl, by simp [World.setCell], fun k _ hk => Below.heap_setCell _ _ _ _ (fun e => hk (by simp [e]))⟩ (Or.inr hne)
theorem own_some {w : World} {B : Nat} {l : List UInt8} {v : Value} (h : w.ownsRow B 5 1 v l.length (Lib.byteCells l)) (hl : l ≠ []) : v ≠ .slice none 0 0 := by
  rintro rfl
  rcases h.2 with ⟨_, h0⟩ | ⟨g, cap, cur, hv, _⟩
  · exact hl (List.eq_nil_of_length_eq_zero h0)
  · cases hv
set_option maxHeartbeats 2000000 in
set_option maxRecDepth 100000 in
theorem xwrite (B b x : Nat) (l : List UInt8) (s : ByteArray) (w : World) (h : BX B b x l w) (hlen : l.length + s.size ≤ 100000000) (hBw : B ≤ w.heap.size) :
    Calls Tryz.prog 66 #[.pointer (some ⟨b, 0, none⟩), .string s] w fun e w' => e = .returned (.tuple #[.int .i64 s.size, .nilIface]) ∧ BX B b x (l ++ s.data.toList) w' ∧ Below B w w' ∧ w'.heap[x]? = w.heap[x]? := by
  obtain ⟨i0, hi, hz0, hz1, hz2⟩ := info_parts info_byte
  have hat := h.at_
  go_enter Tryz.func66, Tryz.ntmps66
  go_wp2_with fail
  refine (bcheck_used B b _ _ hat).mono ?_
  rintro e w1 ⟨rfl, hw1⟩
  rw [hw1]
  clear hw1
  have hlt : b < w.heap.size := Lib.BuilderAt.lt hat
  obtain ⟨hB, hxb, hxl, hl0, v, hbk, hown, hne, hnx⟩ := h
  have c0 : w.cell? ⟨b, 0, none⟩ = some (.pointer (some ⟨b, 0, none⟩)) := by rw [Lib.cell_of_heap hbk]; rfl
  have c1 : w.cell? ⟨b, 1, none⟩ = some v := by rw [Lib.cell_of_heap hbk]; rfl
  go_wp2_with (at_builtin; refine wp_string_at rfl _ _ 43 9 rfl B 5 i0 Tryz.underlying43 Tryz.underlying9 hi hz0 hz1 hz2 _ _ _ rfl hown (own_some hown hl0) s rfl ?c3 ?c4 ?c5 ?_)
  case c3 => unfold maxLen; omega
  case c4 => omega
  case c5 => omega
  intro v' w2 hown' hgrow hat'
  have hb2 : w2.heap[b]? = some (.cells #[.pointer (some ⟨b, 0, none⟩), v] 86 (0, 0)) := by
    rw [hgrow.block b hlt (fun e => hne e.symm)]
    exact hbk
  have hx2 : w2.heap[x]? = w.heap[x]? := hgrow.block x hxl (fun e => hnx e.symm)
  have hzx : x < w2.heap.size := Nat.lt_of_lt_of_le hxl hgrow.size
  have hox : v'.ownBlock ≠ some x := by
    rcases hat' with e | e
    · rw [e]; exact hnx
    · rw [e]; simp; omega
  have d0 : w2.cell? ⟨b, 0, none⟩ = some (.pointer (some ⟨b, 0, none⟩)) := by rw [Lib.cell_of_heap hb2]; rfl
  have d1 : w2.cell? ⟨b, 1, none⟩ = some v := by rw [Lib.cell_of_heap hb2]; rfl
  have f1 : w2.frozen? ⟨b, 1, none⟩ = false := Lib.frozen_of_heap hb2 1
  obtain ⟨ao, n', cap, rfl⟩ : ∃ ao n' cap, v' = .slice ao n' cap := by
    rcases hown'.2 with ⟨hv, _⟩ | ⟨g, cap, cur, hv, _⟩
    · exact ⟨_, _, _, hv⟩
    · exact ⟨_, _, _, hv⟩
  go_wp2
  go_ret2
  refine ⟨rfl, BX.put hB hxb hzx (by simp [hl0]) hb2 ?_ hox, ?_, ?_⟩
  · rw [byteCells_app]
    have e1 : (l ++ s.data.toList).length = l.length + s.size := by rw [List.length_append]; rfl
    rw [e1]
    exact hown'
  · exact ((Below.refl B w).grown hgrow hBw (fun k hk => (hown.lt k hk).1)).setCell hB _
  · rw [Below.heap_setCell _ _ _ _ (by simpa using hxb)]
    exact hx2
set_option maxHeartbeats 2000000 in
set_option maxRecDepth 100000 in
theorem xbyte (B b x : Nat) (l : List UInt8) (c : UInt8) (w : World) (h : BX B b x l w) (hlen : l.length ≤ 100000000) (hBw : B ≤ w.heap.size) :
    Calls Tryz.prog 67 #[.pointer (some ⟨b, 0, none⟩), .int .u8 c.toNat] w fun e w' => e = .returned .nilIface ∧ BX B b x (l ++ [c]) w' ∧ Below B w w' ∧ w'.heap[x]? = w.heap[x]? := by
  obtain ⟨i0, hi, hz0, hz1, hz2⟩ := info_parts info_byte
  have hat := h.at_
  go_enter Tryz.func67, Tryz.ntmps67
  go_wp2_with fail
  refine (bcheck_used B b _ _ hat).mono ?_
  rintro e w1 ⟨rfl, hw1⟩
  rw [hw1]
  clear hw1
  have hlt : b < w.heap.size := Lib.BuilderAt.lt hat
  obtain ⟨hB, hxb, hxl, hl0, v, hbk, hown, hne, hnx⟩ := h
  have c0 : w.cell? ⟨b, 0, none⟩ = some (.pointer (some ⟨b, 0, none⟩)) := by rw [Lib.cell_of_heap hbk]; rfl
  have c1 : w.cell? ⟨b, 1, none⟩ = some v := by rw [Lib.cell_of_heap hbk]; rfl
  go_wp2_with (at_builtin; refine wpList_append_own_at _ rfl _ _ 43 rfl B 5 i0 (.int .u8 0) 1 1 Tryz.underlying43 hi hz0 hz1 hz2 rfl (by decide) _ _ _ rfl (hown.alloc _) ⟨w.heap.size, 0, none⟩ 1 1 [.int .u8 c.toNat] rfl rfl (cell_one_new _ _ _) ?c2 ?c3 ?c4 ?c5 ?_)
  case c2 => intro u hu; simp at hu; subst hu; rfl
  case c3 => unfold maxLen; omega
  case c4 => omega
  case c5 => simp; omega
  intro v' w2 hown' hgrow _ hat'
  have hb2 : w2.heap[b]? = some (.cells #[.pointer (some ⟨b, 0, none⟩), v] 86 (0, 0)) := by
    rw [hgrow.block b (by simp; omega) (fun e => hne e.symm), Lib.alloc_old w _ b hlt]
    exact hbk
  have hx2 : w2.heap[x]? = w.heap[x]? := by rw [hgrow.block x (by simp; omega) (fun e => hnx e.symm), Lib.alloc_old w _ x hxl]
  have hzx : x < w2.heap.size := by have := hgrow.size; simp at this; omega
  have hox : v'.ownBlock ≠ some x := by
    rcases hat' with e | e
    · rw [e]; exact hnx
    · rw [e]; simp; omega
  have d0 : w2.cell? ⟨b, 0, none⟩ = some (.pointer (some ⟨b, 0, none⟩)) := by rw [Lib.cell_of_heap hb2]; rfl
  have d1 : w2.cell? ⟨b, 1, none⟩ = some v := by rw [Lib.cell_of_heap hb2]; rfl
  have f1 : w2.frozen? ⟨b, 1, none⟩ = false := Lib.frozen_of_heap hb2 1
  obtain ⟨ao, n', cap, rfl⟩ : ∃ ao n' cap, v' = .slice ao n' cap := by
    rcases hown'.2 with ⟨hv, _⟩ | ⟨g, cap, cur, hv, _⟩
    · exact ⟨_, _, _, hv⟩
    · exact ⟨_, _, _, hv⟩
  go_wp2
  go_ret
  refine ⟨rfl, BX.put hB hxb hzx (by simp) hb2 ?_ hox, ?_, ?_⟩
  · rw [byteCells_app, List.length_append]
    exact hown'
  · exact (((Below.refl B w).alloc hBw _).grown hgrow (by simp; omega) (fun k hk => (hown.lt k hk).1)).setCell hB _
  · rw [Below.heap_setCell _ _ _ _ (by simpa using hxb)]
    exact hx2
/-- A byte of a text. -/
theorem bletter_any (B b x : Nat) (l : List UInt8) (c : UInt8) (w : World) (h : BX B b x l w) (hl : l.length ≤ 100000) (hB : B ≤ w.heap.size) :
    Calls Tryz.prog 178 #[.pointer (some ⟨b, 0, none⟩), .int .u8 c.toNat] w fun e w' => e = .returned (.tuple #[]) ∧ BX B b x (l ++ escS c) w' ∧ Below B w w' ∧ w'.heap[x]? = w.heap[x]? := by
  have H := hid h
  have hcn : ∀ n : Nat, n < 256 → (c.toNat = n ↔ c = UInt8.ofNat n) := fun n hn => by
    constructor
    · intro e; apply UInt8.toNat_inj.1; rw [e, UInt8.toNat_ofNat']; omega
    · intro e; rw [e, UInt8.toNat_ofNat']; omega
  rcases Classical.em (c = 34 ∨ c = 92) with hc | hc
  · have FE : Hid (escS c = [92] ++ [c]) := by unfold Hid escS; rw [if_pos hc]; rfl
    have HF : Hid (∀ w2, BX B b x (l ++ [92] ++ [c]) w2 → BX B b x (l ++ escS c) w2) := fun w2 h2 => by rw [FE.out, ← List.append_assoc]; exact h2
    clear h
    rcases hc with rfl | rfl
    · go_enter Tryz.func178, Tryz.ntmps178
      go_wp2_with fail
      refine (xbyte B b x l 92 _ H.out (by omega) hB).mono ?_
      rintro e w1 ⟨rfl, hb1, hB1, hx1⟩
      have H1 := hid hb1
      have HW := hid hB1
      have HX := hid hx1
      have hz := hB1.size
      clear hb1 hB1 hx1
      go_wp2_with fail
      refine (xbyte B b x (l ++ [92]) 34 _ H1.out (by simp; omega) (by omega)).mono ?_
      rintro e w2 ⟨rfl, hb2, hB2, hx2⟩
      have H2 := hid hb2
      have HW2 := hid (HW.out.trans hB2)
      have HX2 := hid (hx2.trans HX.out)
      clear hb2 hB2 hx2
      go_wp2_with fail
      go_returns
      exact ⟨rfl, HF.out _ H2.out, HW2.out, HX2.out⟩
    · go_enter Tryz.func178, Tryz.ntmps178
      go_wp2_with fail
      refine (xbyte B b x l 92 _ H.out (by omega) hB).mono ?_
      rintro e w1 ⟨rfl, hb1, hB1, hx1⟩
      have H1 := hid hb1
      have HW := hid hB1
      have HX := hid hx1
      have hz := hB1.size
      clear hb1 hB1 hx1
      go_wp2_with fail
      refine (xbyte B b x (l ++ [92]) 92 _ H1.out (by simp; omega) (by omega)).mono ?_
      rintro e w2 ⟨rfl, hb2, hB2, hx2⟩
      have H2 := hid hb2
      have HW2 := hid (HW.out.trans hB2)
      have HX2 := hid (hx2.trans HX.out)
      clear hb2 hB2 hx2
      go_wp2_with fail
      go_returns
      exact ⟨rfl, HF.out _ H2.out, HW2.out, HX2.out⟩
  · simp only [not_or] at hc
    by_cases h10 : c = 10
    · subst h10
      go_enter Tryz.func178, Tryz.ntmps178
      go_wp2_with fail
      refine (xwrite B b x l ⟨#[92, 110]⟩ _ H.out (by show _ + 2 ≤ _; omega) hB).mono ?_
      rintro e w1 ⟨rfl, hb1, hB1⟩
      have H1 := hid hb1
      have HW := hid hB1
      clear hb1 hB1
      go_wp2_with fail
      go_returns
      exact ⟨rfl, H1.out, HW.out⟩
    · by_cases h9 : c = 9
      · subst h9
        go_enter Tryz.func178, Tryz.ntmps178
        go_wp2_with fail
        refine (xwrite B b x l ⟨#[92, 116]⟩ _ H.out (by show _ + 2 ≤ _; omega) hB).mono ?_
        rintro e w1 ⟨rfl, hb1, hB1⟩
        have H1 := hid hb1
        have HW := hid hB1
        clear hb1 hB1
        go_wp2_with fail
        go_returns
        exact ⟨rfl, H1.out, HW.out⟩
      · have FE : Hid (escS c = [c]) := by unfold Hid escS; rw [if_neg (by rintro (e | e); exact hc.1 e; exact hc.2 e), if_neg h10, if_neg h9]
        have n1 : c.toNat ≠ 34 := fun e => hc.1 ((hcn 34 (by omega)).1 e)
        have n2 : c.toNat ≠ 92 := fun e => hc.2 ((hcn 92 (by omega)).1 e)
        have n3 : c.toNat ≠ 10 := fun e => h10 ((hcn 10 (by omega)).1 e)
        have n4 : c.toNat ≠ 9 := fun e => h9 ((hcn 9 (by omega)).1 e)
        have t1 : ((c.toNat : Int) == 34) = false := by simp; omega
        have t2 : ((c.toNat : Int) == 92) = false := by simp; omega
        have t3 : ((c.toNat : Int) == 10) = false := by simp; omega
        have t4 : ((c.toNat : Int) == 9) = false := by simp; omega
        clear h hc h10 h9 hcn n1 n2 n3 n4
        go_enter Tryz.func178, Tryz.ntmps178
        go_wp2_with fail
        refine (xbyte B b x l c _ H.out (by omega) hB).mono ?_
        rintro e w1 ⟨rfl, hb1, hB1⟩
        have H1 : Hid (BX B b x (l ++ escS c) w1) := by unfold Hid; rw [FE.out]; exact hb1
        have HW := hid hB1
        clear hb1 hB1
        go_wp2_with fail
        go_returns
        exact ⟨rfl, H1.out, HW.out⟩
theorem esc_len : ∀ (l : List UInt8) (n : Nat), l.length ≤ n → (l.flatMap escS).length ≤ 2 * n
  | [], n, _ => Nat.zero_le _
  | c :: l, n, h => by
    rw [List.flatMap_cons, List.length_append]
    have h1 := esc_len l (n - 1) (by simp at h; omega)
    have h2 : (escS c).length ≤ 2 := by
      unfold escS
      split
      · exact Nat.le_refl _
      · split
        · exact Nat.le_refl _
        · split
          · exact Nat.le_refl _
          · show 1 ≤ 2; omega
    simp at h
    omega
set_option maxRecDepth 100000 in
set_option maxHeartbeats 1000000 in
/-- The flat text of a text. -/
theorem btext_any (s : ByteArray) (w : World) (hs : s.size ≤ 100) :
    Calls Tryz.prog 177 #[.string s] w fun e w' => e = .returned (.string (quotS s)) ∧ Below w.heap.size w w' := by
  have hconv := fun (w : World) (f : ByteArray) => Lib.run_convert_string_bytes (P := Tryz.prog) w 176 43 5 f Tryz.underlying176 Tryz.underlying43 Tryz.underlying5
  go_enter Tryz.func177, Tryz.ntmps177
  go_wp2_with fail
  have hb0 : Lib.IsBuilder 86 5 w.heap.size w.heap.size (Lib.byteCells []) (w.alloc (.cells #[.pointer none, .slice none 0 0] 86)) := by
    refine .inl ⟨Nat.le_refl _, .slice none 0 0, ?_, World.ownsRow_nil _ _ _ _, by simp [Value.ownBlock]⟩
    have e : ∀ o : Obj, (w.alloc o).heap = w.heap.push o := fun o => rfl
    rw [e]
    simp
  have HBa : Hid (Below w.heap.size w (w.alloc (.cells #[.pointer none, .slice none 0 0] 86))) := (Below.refl _ _).alloc (Nat.le_refl _) _
  have hza : (w.alloc (.cells #[.pointer none, .slice none 0 0] 86)).heap.size = w.heap.size + 1 := by simp
  have Hb0 := hid hb0
  clear hb0
  generalize (w.alloc (.cells #[.pointer none, .slice none 0 0] 86)) = W1 at *
  refine (Tryz.Builder_WriteByte w.heap.size w.heap.size (Lib.byteCells []) 34 W1 Hb0.out (by decide) (by omega)).mono ?_
  rintro e w2 ⟨rfl, hb2, hB2⟩
  have Hb2 := hid hb2
  have HB2 : Hid (Below w.heap.size w w2) := HBa.out.trans hB2
  have hz2 := hB2.size
  clear hb2 hB2 Hb0
  go_wp2_with fail
  have hcell : ∀ j (hj : j < s.size), (Lib.bytesWorld w2 5 s).cell? ⟨w2.heap.size, j, none⟩ = some (.int .u8 (s.data.toList.getD j 0).toNat) := fun j hj => Lib.bytesWorld_cell w2 5 s j hj
  have hB3 : Below w2.heap.size w2 (Lib.bytesWorld w2 5 s) := bytes_below w2 _ _
  have HC := hid hcell
  have hzb : w2.heap.size < (Lib.bytesWorld w2 5 s).heap.size := by simp [Lib.bytesWorld, World.freeze]
  have Hb3 : Hid (BX w.heap.size w.heap.size w2.heap.size ([34] ++ (s.data.toList.take 0).flatMap escS) (Lib.bytesWorld w2 5 s)) := by
    have hl : w.heap.size < w2.heap.size := Lib.BuilderAt.lt Hb2.out
    obtain ⟨h1, v, h2, h3, h4⟩ := Hb2.out
    exact ⟨h1, by omega, hzb, by simp, v, (hB3.block _ hl).trans h2, owns_frame h3 (fun k _ k2 => hB3.block k k2), h4, fun e => by have := (h3.lt _ e).2; omega⟩
  have HB3 : Hid (Below w.heap.size w (Lib.bytesWorld w2 5 s)) := HB2.out.trans (hB3.mono (by omega))
  have hz3 := hB3.size
  have hlen : s.data.toList.length = s.size := Array.length_toList
  clear hB3 Hb2 hcell hzb
  generalize hw3 : Lib.bytesWorld w2 5 s = w3 at *
  clear hw3
  go_loopw [10] (fun i wr => ∃ k : Nat, k ≤ s.size ∧ i = .int .i64 k ∧ Hid (BX w.heap.size w.heap.size w2.heap.size ([34] ++ (s.data.toList.take k).flatMap escS) wr) ∧ Hid (Below w.heap.size w wr) ∧ w3.heap.size ≤ wr.heap.size ∧ Hid (wr.heap[w2.heap.size]? = w3.heap[w2.heap.size]?)) (fun i _ => s.size - (intOf i).toNat)
  case atStart => exact ⟨0, Nat.zero_le _, rfl, Hb3, HB3, Nat.le_refl _, rfl⟩
  case round =>
    obtain ⟨k, hk, rfl, hb4, hB4, hz4, hsame⟩ := hrel
    have hfl : ((s.data.toList.take k).flatMap escS).length ≤ 2 * k := esc_len _ k (by rw [List.length_take]; omega)
    by_cases hkl : k < s.size
    · have hck := (World.cell?_of_block (w := w3) hsame.out).trans (HC.out k hkl)
      have tk : decide ((k : Int) < s.size) = true := by simp; omega
      have hnx : Hid ([34] ++ (s.data.toList.take k).flatMap escS ++ escS (s.data.toList.getD k 0) = [34] ++ (s.data.toList.take (k + 1)).flatMap escS) := by
        unfold Hid
        rw [List.take_succ_eq_append_getElem (by omega), List.flatMap_append, List.append_assoc]
        simp [List.getD_eq_getElem?_getD, List.getElem?_eq_getElem (show k < s.data.toList.length by omega)]
      generalize s.data.toList.getD k 0 = c at *
      go_wp2_with fail
      refine (bletter_any w.heap.size w.heap.size w2.heap.size _ c wr hb4.out (by rw [List.length_append]; simp only [List.length_cons, List.length_nil]; omega) (by omega)).mono ?_
      rintro e w5 ⟨rfl, hb5, hB5, hx5⟩
      rw [hnx.out] at hb5
      have Hb5 := hid hb5
      have HB5 := hid (hB4.out.trans hB5)
      have HX5 := hid (hx5.trans hsame.out)
      have hz5 := hB5.size
      clear hb5 hB5 hx5 hb4 hB4 hsame hck
      go_wp2_with fail
      go_roundw
      case rel => exact ⟨k + 1, by omega, by go_num, Hb5, HB5, by omega, HX5⟩
      case measure => simp [intOf]; omega
    · have tk : decide ((k : Int) < s.size) = false := by simp; omega
      have ek : k = s.size := by omega
      have Fin : Hid (BX w.heap.size w.heap.size w2.heap.size ([34] ++ s.data.toList.flatMap escS) wr) := by
        have h1 := hb4.out
        rw [List.take_of_length_le (by omega)] at h1
        exact h1
      have FQ : Hid (quotS s = ⟨([34] ++ s.data.toList.flatMap escS ++ [34]).toArray⟩) := rfl
      have hfl2 : (s.data.toList.flatMap escS).length ≤ 2 * s.size := esc_len _ s.size (by omega)
      clear hb4 hsame
      generalize s.data.toList.flatMap escS = fl at *
      go_wp2_with fail
      refine (xbyte w.heap.size w.heap.size w2.heap.size ([34] ++ fl) 34 wr Fin.out (by rw [List.length_append]; simp only [List.length_cons, List.length_nil]; omega) (by omega)).mono ?_
      rintro e w5 ⟨rfl, hb5, hB5, _⟩
      have Hb5 := hid hb5.at_
      have HB5 : Hid (Below w.heap.size w w5) := hB4.out.trans hB5
      have hz5 := hB5.size
      clear hb5 hB5
      go_wp2_with fail
      refine (Tryz.Builder_String_any w.heap.size w.heap.size ([34] ++ fl ++ [34]) w5 (.inr Hb5.out) (by omega)).mono ?_
      rintro e w6 ⟨rfl, hB6⟩
      have HB6 : Hid (Below w.heap.size w w6) := HB5.out.trans hB6
      clear hB6
      go_wp2_with fail
      go_ret
      exact ⟨congrArg (fun z => Ending.returned (.string z)) FQ.out.symm, HB6.out⟩
end Go.Proofs.YtdebjhdafnpfkabGreatDoor
