import Derived.Test.YtdebjhdafnpfkaaGreatDoorRefN
import Derived.Test.YtdebjhdafnpfkaaGreatDoorRefP
import Derived.Deep.RegionLaw
namespace Go.Proofs.YtdebjhdafnpfkaaGreatDoor
open Go.ChangeShapes Go.WideShapes Go.ChangeAt Go.RowKit
set_option linter.unusedVariables false

/-- An append to a row of one's own, as one step of a region that draws. -/
theorem step_append_own {P : Program} {ops : Array Oper} {o : Oper} {a : Act} {w : World} {K : Act → World → Prop} {Q : Exit → Act → World → Prop} {E : Prop} (hgd : o.guard = none) (s x : Operand) (t : TypeId)
    (ho : o.op = .call { callee := .builtin .append, args := #[s, x], argTypes := #[t, t] })
    (base : Nat) (e : TypeId) (i : TypeInfo) (z : Value) (size bytes : Nat) (ht : P.underlying t = some (.slice e)) (hi : P.info? e = some i) (hz : i.zero = some z)
    (hsize : i.size = size) (hby : i.bytes = bytes) (hzs : z.cells.size = size) (hsz : 0 < size)
    (v : Value) (n : Nat) (xs : List Value) (hs : a.eval s = v) (hown : w.ownsRow base e size v n xs)
    (ad : Addr) (m c : Nat) (news : List Value) (hx : a.eval x = .slice (some ad) m c) (hl : news.length = m * size) (hnews : ∀ j u, news[j]? = some u → w.cell? (ad.add j) = some u) (h1 : ∀ u ∈ news, u.oneCell' = true)
    (h63 : n + m ≤ maxLen) (hbytes : (n + m) * bytes ≤ 140737488355328) (hbase : base ≤ w.heap.size)
    (h : ∀ v' w', w'.ownsRow base e size v' (n + m) (xs ++ news) → w.grownBy w' v.ownBlock → (v' = .slice none 0 0 ↔ v = .slice none 0 0 ∧ m = 0) → K (a.put o.dst v') w') :
    if Region.wanted o (yielded ops a.tmps) = true then Oper.wp P o a w K Q else E := by
  have hw : Region.wanted o (yielded ops a.tmps) = true := by simp [Region.wanted, hgd]
  rw [if_pos hw]
  exact wp_append_own w s x t ho base e i z size bytes ht hi hz hsize hby hzs hsz v n xs hs hown ad m c news hx hl hnews h1 h63 hbytes hbase h

theorem pathLoop_ne (s : ByteArray) : ∀ (n : Nat) (y : St) (l : List ByteArray), 0 < n ∨ 0 < l.length → 0 < (rpathLoop s n y l).2.length
  | 0, y, l, h => h.elim (fun h => absurd h (Nat.lt_irrefl _)) id
  | n + 1, y, l, _ => by
    simp only [rpathLoop]
    split
    · exact pathLoop_ne s n _ _ (.inr (by simp))
    · simp
theorem path_ne (s : ByteArray) (x : St) (h : x.a ≤ s.size) : 0 < (rpath s x).2.length := pathLoop_ne s _ _ _ (.inl (by omega))

/-- A call of a function by its contract, as one step of a region that draws. -/
theorem step_call1 {P : Program} {ops : Array Oper} {o : Oper} {a : Act} {w : World} {K : Act → World → Prop} {Q : Exit → Act → World → Prop} {E : Prop} (hgd : o.guard = none) (f : FuncId) (x : Operand) (t : TypeId)
    (ho : o.op = .call { callee := .value (.func f), args := #[x], argTypes := #[t] }) (u v : Value) (hx : a.eval x = u) (C : World → Prop) (hcf : (callFunc f #[u]).run P w = .ok (.enter f #[u]) w) (h : Calls P f #[u] w fun e w' => e = .returned v ∧ C w') (hK : ∀ w', C w' → K (a.put o.dst v) w') :
    if Region.wanted o (yielded ops a.tmps) = true then Oper.wp P o a w K Q else E := by
  have hw : Region.wanted o (yielded ops a.tmps) = true := by simp [Region.wanted, hgd]
  rw [if_pos hw]
  unfold Oper.wp
  have he : (execOp a.eval o).run P w = .ok (.enter f #[u]) w := by
    have hf : a.eval (.func f) = Value.func (Fn.func f) #[] #[] := rfl
    simp [execOp, ho, resolve, invoke, hx, hf, Deferred.ofValue, hcf]
  rw [he, Oper.upon_enter]
  exact h.mono (fun e w' hh => by obtain ⟨rfl, hc⟩ := hh; exact hK _ hc)

theorem RowIn.of6 {w : World} {lo hi : Nat} {v : Value} {l : List ByteArray} (h : RowIn w lo hi 9 v (l.map .string)) : w.ownsRow lo 9 1 v (l.map Value.string).length (l.map .string) := h.1
theorem call_table (args : Array Value) (w : World) : (callFunc 88 args).run Tryz.prog w = .ok (.enter 88 args) w := by kernel_rfl

set_option maxRecDepth 100000 in
set_option maxHeartbeats 8000000 in
theorem item_pair (b : Nat) (s : ByteArray) (x : St) (it : Value) (cs : List (List Value)) (items : List It) (w : World) (hs : s.size ≤ 4000) (h : RD w b s x it) (hits : Its w b it cs items) (hlen : items.length ≤ 10000)
    (hinv : Inv s x) (hxe : x.e = 0) (hr : ris s x 91 = false) :
    Calls Tryz.prog 57 #[.pointer (some ⟨b, 0, none⟩)] w fun e w' => ∃ pv fv vo, e = .returned (.agg #[.int .u8 (ritem s items x).2.k, pv, fv, .pointer vo, .string (ritem s items x).2.rem]) ∧ RD w' b s (ritem s items x).1 it ∧ Kb b w w' ∧
      RIt w.heap.size w'.heap.size w' [.int .u8 (ritem s items x).2.k, pv, fv, .pointer vo, .string (ritem s items x).2.rem] (ritem s items x).2 := by
  obtain ⟨j0, hj, hy0, hy1, hy2⟩ := info_parts info_string
  have hA := h.A
  have hF := h.F
  have hlt := h.lt
  have h' : Hid (RD w b s x it) := h
  have HI : Hid (Its w b it cs items) := hits
  have hlx : x.a ≤ s.size := hinv.2 hxe
  have Hinv : Hid (Inv s x) := hinv
  have hri : Hid (ritem s items x = (if (rval s 7 0 (rblanks s (rmust s (rblanks s (rpath s x).1 false) 61) false)).1.e = 0 ∧ rtwice items ⟨61, (rpath s x).2, rtable items ++ (rpath s x).2, (rval s 7 0 (rblanks s (rmust s (rblanks s (rpath s x).1 false) 61) false)).2, ⟨#[]⟩⟩ = true then rno (rval s 7 0 (rblanks s (rmust s (rblanks s (rpath s x).1 false) 61) false)).1 6 x.a else (rval s 7 0 (rblanks s (rmust s (rblanks s (rpath s x).1 false) 61) false)).1, ⟨61, (rpath s x).2, rtable items ++ (rpath s x).2, (rval s 7 0 (rblanks s (rmust s (rblanks s (rpath s x).1 false) 61) false)).2, ⟨#[]⟩⟩)) := by
    unfold Hid ritem
    rw [if_neg (by rw [hr]; simp)]
  clear h hits hxe hinv
  have R2 : Hid _ := (h'.out.alloc (.cells #[.int .u8 0, .slice none 0 0, .slice none 0 0, .pointer none, .string ⟨#[]⟩] 72)).alloc (.cells #[.int .u8 61, .slice none 0 0, .slice none 0 0, .pointer none, .string ⟨#[]⟩] 72)
  have K2 : Hid _ := ((Kb.refl b w).alloc hlt (.cells #[.int .u8 0, .slice none 0 0, .slice none 0 0, .pointer none, .string ⟨#[]⟩] 72)).alloc (by simp; omega) (.cells #[.int .u8 61, .slice none 0 0, .slice none 0 0, .pointer none, .string ⟨#[]⟩] 72)
  have e1 : (w.alloc (.cells #[.int .u8 0, .slice none 0 0, .slice none 0 0, .pointer none, .string ⟨#[]⟩] 72)).heap.size = w.heap.size + 1 := by simp
  have XQ := XN.new (w.alloc (.cells #[.int .u8 0, .slice none 0 0, .slice none 0 0, .pointer none, .string ⟨#[]⟩] 72)) 61
  rw [e1] at XQ
  have X1 : Hid _ := XQ
  have X0 : Hid _ := (XN.new w 0).alloc (.cells #[.int .u8 61, .slice none 0 0, .slice none 0 0, .pointer none, .string ⟨#[]⟩] 72)
  have HZ : Hid (((w.alloc (.cells #[.int .u8 0, .slice none 0 0, .slice none 0 0, .pointer none, .string ⟨#[]⟩] 72)).alloc (.cells #[.int .u8 61, .slice none 0 0, .slice none 0 0, .pointer none, .string ⟨#[]⟩] 72)).heap.size = w.heap.size + 1 + 1) := by
    unfold Hid
    simp
  clear XQ e1 h'
  go_enter Tryz.func57, Tryz.ntmps57
  go_wp2_with fail
  refine (is_any b s x it 91 _ hs (by omega) R2.out).mono ?_
  rintro e w1 ⟨rfl, k1, rfl⟩
  go_wp2_with fail
  refine (path_any b s x it _ hs hlx (RD.drewN R2.out k1)).mono ?_
  rintro e w3 ⟨pv, rfl, hd3, hk3, hr3⟩
  have hg3 := gd_path (Gd.refl Hinv.out)
  have hlp := path_len s x
  have hne := path_ne s x hlx
  have hd3' : Hid (RD w3 b s (rpath s x).1 it) := hd3
  have hkk : Kb b ((w.alloc (.cells #[.int .u8 0, .slice none 0 0, .slice none 0 0, .pointer none, .string ⟨#[]⟩] 72)).alloc (.cells #[.int .u8 61, .slice none 0 0, .slice none 0 0, .pointer none, .string ⟨#[]⟩] 72)) w3 := ((Kb.refl _ _).drewN k1).trans hk3
  have hr3' : Hid (RowIn w3 (w.heap.size + 1 + 1) w3.heap.size 9 pv ((rpath s x).2.map .string)) := hr3.wide (Nat.le_of_eq HZ.out.symm) (Nat.le_refl _)
  have Hg3 : Hid (Inv s (rpath s x).1) := hg3.1
  have hy3a := hg3.1.1
  have X4 : Hid (XN w3 (w.heap.size + 1) 61 (.slice none 0 0) (.slice none 0 0) none ⟨#[]⟩) := XN.kb X1.out hkk (by omega)
  have Y4 : Hid (XN w3 w.heap.size 0 (.slice none 0 0) (.slice none 0 0) none ⟨#[]⟩) := XN.kb X0.out hkk (by omega)
  have K4 : Hid (Kb b w w3) := Kb.trans K2.out hkk
  have hz3 : w.heap.size + 1 + 1 ≤ w3.heap.size := by have := hkk.size; rw [HZ.out] at this; exact this
  clear hd3 hr3 hg3 hk3 hkk R2 K2 X1 X0 HZ hA hF
  generalize (rpath s x).2 = pth at *
  generalize (rpath s x).1 = y3 at *
  obtain ⟨ap, cp, ep⟩ := owns_form hr3'.out.1
  subst ep
  simp only [List.length_map] at hr3'
  obtain ⟨c0, c1, c2, c3, c4, cF, cl⟩ := X4.out
  have R5 : Hid _ := hd3'.out.set_other (w.heap.size + 1) 1 (.slice ap pth.length cp) (by omega)
  have K5 : Hid _ := K4.out.set_new hlt (w.heap.size + 1) 1 (.slice ap pth.length cp) (by omega)
  have X5 : Hid _ := X4.out.setP (.slice ap pth.length cp)
  have Y5 : Hid _ := Y4.out.set_other (w.heap.size + 1) 1 (.slice ap pth.length cp) (by omega)
  have P5 : Hid _ := hr3'.out.set (w.heap.size + 1) 1 (.slice ap pth.length cp) (by omega)
  have Z5 : Hid ((w3.setCell ⟨w.heap.size + 1, 1, none⟩ (.slice ap pth.length cp)).heap.size = w3.heap.size) := by unfold Hid; simp [World.setCell]
  have I5 : Hid _ := HI.out.kb K5.out
  clear hd3' hr3' K4 Y4 X4
  simp only [List.length_map]
  obtain ⟨tv, lt, ht, trow, tz, tl, tcall⟩ := table_det b s y3 it cs items _ R5.out I5.out hlen
  have Htr : Hid _ := trow
  have Htc : Hid _ := tcall
  clear trow tcall
  generalize rtable items = tab at *
  obtain ⟨gp, hgp, _, _⟩ := owns_some (n := pth.length) (xs := pth.map .string) (by have := (RowIn.frame (w' := w3.setCell ⟨w.heap.size + 1, 1, none⟩ (.slice ap pth.length cp)) P5.out (fun _ _ _ => rfl)).1; rw [List.length_map] at this; exact this) hne
  subst hgp
  have x5 := X5.out
  have e2 := XN.c2 x5
  have eF := XN.F x5
  have el := XN.lt x5
  clear x5
  rcases Htr.out.1.2 with ⟨htv, h0⟩ | ⟨g, cap, cur, htv, hg1, hg2, hg3, hg4, hg5, hg6⟩
  · subst htv
    have htab : tab = [] := by
      have := h0
      simp at this
      exact this
    go_wp2_with fail
    go_region_law (refine step_call1 rfl 88 (.tmp 37) 31 rfl _ _ (by first | (simp [Act.eval]; done) | simp [Act.eval, Act.put]) _ (call_table _ _) (Htc.out 1) ?_; rintro w6 ⟨m6, rfl⟩)
    all_goals
      have R6 : Hid _ := RD.set_other (RD.drewN R5.out m6) (w.heap.size + 1) 2 (.slice none 0 0) (by omega)
      have K6 : Hid _ := Kb.set_new (Kb.drewN K5.out m6) hlt (w.heap.size + 1) 2 (.slice none 0 0) (by omega)
      have X6 : Hid _ := XN.setF (XN.drewN X5.out m6) (.slice none 0 0)
      have Y6 : Hid _ := XN.set_other (XN.drewN Y5.out m6) (w.heap.size + 1) 2 (.slice none 0 0) (by omega)
      have P6 : Hid _ := RowIn.set (w := (w3.setCell ⟨w.heap.size + 1, 1, none⟩ (.slice (some ⟨gp, 0, none⟩) pth.length cp)).drewN m6) P5.out (w.heap.size + 1) 2 (.slice none 0 0) (by omega)
      have HZ6 : Hid (w3.heap.size ≤ (((w3.setCell ⟨w.heap.size + 1, 1, none⟩ (.slice (some ⟨gp, 0, none⟩) pth.length cp)).drewN m6).setCell ⟨w.heap.size + 1, 2, none⟩ (.slice none 0 0)).heap.size) := by unfold Hid; simp [World.setCell]
      have O6 : Hid ((((w3.setCell ⟨w.heap.size + 1, 1, none⟩ (.slice (some ⟨gp, 0, none⟩) pth.length cp)).drewN m6).setCell ⟨w.heap.size + 1, 2, none⟩ (.slice none 0 0)).ownsRow w3.heap.size 9 1 (.slice none 0 0) tab.length (tab.map .string)) := by
        rw [htab]
        exact World.ownsRow_nil _ _ _ _
      have Htab : Hid _ := htab
      have Htl : Hid _ := tl
      clear htab R5 K5 X5 Y5 P5 I5 Z5 Htr Htc h0 e2 eF el c0 c1 c2 c3 c4 cF cl
      obtain ⟨a0, a1, a2, a3, a4, aF, al⟩ := X6.out
      have hgn : Hid _ := K6.out.size
      go_wp2_with (at_builtin; refine wpList_append_own _ rfl (.tmp 42) (.tmp 44) 38 rfl w3.heap.size 9 j0 (.string ⟨#[]⟩) 1 16 Tryz.underlying38 hj hy0 hy1 hy2 rfl (by decide) _ _ _ rfl O6.out ⟨gp, 0, none⟩ pth.length cp (pth.map .string) rfl (by simp) (fun j u hu => World.ownsRow.cells (RowIn.of6 P6.out) rfl j u hu) (by intro u hu; simp at hu; obtain ⟨_, _, rfl⟩ := hu; rfl) (by unfold maxLen; omega) (by omega) HZ6.out ?_; intro v7 w7 hown7 hgrow7 hnil7; refine Hid.out ?_)
      have D7 : Hid (RD w7 b s y3 it) := RD.grown R6.out hgrow7 (owns_ne O6.out (by omega))
      have K7 : Hid (Kb b w w7) := Kb.grown K6.out hlt hgrow7 (fun k hk => by have := (World.ownsRow.lt O6.out k hk).1; omega)
      have X7 : Hid (XN w7 (w.heap.size + 1) 61 (.slice (some ⟨gp, 0, none⟩) pth.length cp) (.slice none 0 0) none ⟨#[]⟩) := XN.of_block X6.out (hgrow7.block (w.heap.size + 1) al (owns_ne O6.out (by omega))) hgrow7.size
      have Y7 : Hid (XN w7 w.heap.size 0 (.slice none 0 0) (.slice none 0 0) none ⟨#[]⟩) := XN.of_block Y6.out (hgrow7.block w.heap.size (XN.lt Y6.out) (owns_ne O6.out (by omega))) hgrow7.size
      have P7 : Hid (RowIn w7 (w.heap.size + 1 + 1) w3.heap.size 9 (.slice (some ⟨gp, 0, none⟩) pth.length cp) (pth.map .string)) := RowIn.frame P6.out (fun k k1 k2 => hgrow7.block k (Nat.lt_of_lt_of_le k2 HZ6.out) (owns_ne O6.out k2))
      have O7 : Hid (w7.ownsRow w3.heap.size 9 1 v7 (tab ++ pth).length ((tab ++ pth).map .string)) := by
        unfold Hid
        simpa using hown7
      have hz7 : w3.heap.size ≤ w7.heap.size := Nat.le_trans HZ6.out hgrow7.size
      clear hown7 hgrow7 hnil7 R6 K6 X6 Y6 P6 O6 HZ6 hgn a0 a1 a2 a3 a4 aF al
      have Hfl : Hid ((tab ++ pth).length = tab.length + pth.length) := by unfold Hid; simp
      generalize hfull : tab ++ pth = full at *
      clear hfull
      obtain ⟨ad7, cp7, ev7⟩ := owns_form O7.out
      subst ev7
      obtain ⟨a0, a1, a2, a3, a4, aF, al⟩ := X7.out
      have R8 : Hid _ := D7.out.set_other (w.heap.size + 1) 2 (.slice ad7 full.length cp7) (by omega)
      have K8 : Hid _ := K7.out.set_new hlt (w.heap.size + 1) 2 (.slice ad7 full.length cp7) (by omega)
      have X8 : Hid _ := X7.out.setF (.slice ad7 full.length cp7)
      have Y8 : Hid _ := Y7.out.set_other (w.heap.size + 1) 2 (.slice ad7 full.length cp7) (by omega)
      have P8 : Hid _ := P7.out.set (w.heap.size + 1) 2 (.slice ad7 full.length cp7) (by omega)
      have F8 : Hid _ := (owns_rowIn O7.out).set (w.heap.size + 1) 2 (.slice ad7 full.length cp7) (by omega)
      have Z8 : Hid ((w7.setCell ⟨w.heap.size + 1, 2, none⟩ (.slice ad7 full.length cp7)).heap.size = w7.heap.size) := by unfold Hid; simp [World.setCell]
      clear D7 K7 X7 Y7 P7 O7
      unfold Hid
      go_wp2_with fail
      refine (blanks_any b s y3 it false _ hs (by omega) R8.out).mono ?_
      rintro e w9 ⟨rfl, hd9, hk9⟩
      have hg9 := gd_blanks (Gd.refl Hg3.out) false
      have hd9' : Hid (RD w9 b s (rblanks s y3 false) it) := hd9
      have hy9 := hg9.1.1
      have Hg9 : Hid (Inv s (rblanks s y3 false)) := hg9.1
      clear hd9 hg9 a0 a1 a2 a3 a4 aF al
      generalize rblanks s y3 false = y9 at *
      go_wp2_with fail
      refine (must_any b s y9 it 61 _ hs (by omega) hd9'.out).mono ?_
      rintro e wa ⟨rfl, hda, hka⟩
      have hga := gd_must (Gd.refl Hg9.out) 61
      have hda' : Hid (RD wa b s (rmust s y9 61) it) := hda
      have hya := hga.1.1
      have Hga : Hid (Inv s (rmust s y9 61)) := hga.1
      clear hda hga
      generalize rmust s y9 61 = ya at *
      go_wp2_with fail
      refine (blanks_any b s ya it false _ hs (by omega) hda'.out).mono ?_
      rintro e wc ⟨rfl, hdc, hkc⟩
      have hgc := gd_blanks (Gd.refl Hga.out) false
      have hdc' : Hid (RD wc b s (rblanks s ya false) it) := hdc
      have hyc := hgc.1.1
      have Hgc : Hid (Inv s (rblanks s ya false)) := hgc.1
      clear hdc hgc
      generalize rblanks s ya false = yc at *
      go_wp2_with fail
      refine (value_any b s it hs yc _ Hgc.out hdc'.out).mono ?_
      rintro e wb ⟨vp, rfl, hdb, hkb, hrb⟩
      have hkcb := (hk9.trans hka).trans hkc
      have hkall := hkcb.trans hkb
      have hzc : w7.heap.size ≤ wc.heap.size := by have := hkcb.size; rw [Z8.out] at this; exact this
      have Db : Hid (RD wb b s (rval s 7 0 yc).1 it) := hdb
      have Vb : Hid (RVal 7 wc.heap.size wb.heap.size wb vp (rval s 7 0 yc).2) := hrb
      have Kb' : Hid (Kb b w wb) := Kb.trans K8.out hkall
      have Xb : Hid (XN wb (w.heap.size + 1) 61 (.slice (some ⟨gp, 0, none⟩) pth.length cp) (.slice ad7 full.length cp7) none ⟨#[]⟩) := XN.kb X8.out hkall (by omega)
      have Yb : Hid (XN wb w.heap.size 0 (.slice none 0 0) (.slice none 0 0) none ⟨#[]⟩) := XN.kb Y8.out hkall (by omega)
      have Pb : Hid (RowIn wb (w.heap.size + 1 + 1) w3.heap.size 9 (.slice (some ⟨gp, 0, none⟩) pth.length cp) (pth.map .string)) := RowIn.kb P8.out hkall (by omega) (by rw [Z8.out]; exact hz7)
      have Fb : Hid (RowIn wb w3.heap.size w7.heap.size 9 (.slice ad7 full.length cp7) (full.map .string)) := RowIn.kb F8.out hkall (by omega) (by rw [Z8.out]; exact Nat.le_refl _)
      have hzb := hkb.size
      clear hdb hrb hkb hkcb hkall hk9 hka hkc hd9' hda' hdc' R8 K8 X8 Y8 P8 F8 Z8 Hg9 Hga Hgc
      generalize (rval s 7 0 yc).2 = u at *
      generalize (rval s 7 0 yc).1 = yb at *
      obtain ⟨a0, a1, a2, a3, a4, aF, al⟩ := Xb.out
      have D1 : Hid _ := Db.out.set_other (w.heap.size + 1) 3 (.pointer (some ⟨vp, 0, none⟩)) (by omega)
      have K1 : Hid _ := Kb'.out.set_new hlt (w.heap.size + 1) 3 (.pointer (some ⟨vp, 0, none⟩)) (by omega)
      have X1 : Hid _ := Xb.out.setV (some ⟨vp, 0, none⟩)
      have Y1 : Hid _ := Yb.out.set_other (w.heap.size + 1) 3 (.pointer (some ⟨vp, 0, none⟩)) (by omega)
      have P1 : Hid _ := Pb.out.set (w.heap.size + 1) 3 (.pointer (some ⟨vp, 0, none⟩)) (by omega)
      have F1 : Hid _ := Fb.out.set (w.heap.size + 1) 3 (.pointer (some ⟨vp, 0, none⟩)) (by omega)
      have V1 : Hid (RVal 7 wc.heap.size wb.heap.size (wb.setCell ⟨w.heap.size + 1, 3, none⟩ (.pointer (some ⟨vp, 0, none⟩))) vp u) := Vb.out.set (w.heap.size + 1) 3 (.pointer (some ⟨vp, 0, none⟩)) (by omega)
      have Z1 : Hid ((wb.setCell ⟨w.heap.size + 1, 3, none⟩ (.pointer (some ⟨vp, 0, none⟩))).heap.size = wb.heap.size) := by unfold Hid; simp [World.setCell]
      have hE1 := RD.E D1.out
      have hE0 := RD.E Db.out
      have I1 : Hid _ := HI.out.kb K1.out
      obtain ⟨d0, d1, d2, d3, d4, dF, dl⟩ := Yb.out
      clear Db Kb' Xb Yb Pb Fb Vb
      by_cases he : yb.e = 0
      · have te : ((yb.e : Int) == 0) = true := by simp [he]
        have He : Hid (yb.e = 0) := he
        clear he
        go_wp2_with fail
        refine (twice_any b s yb it cs items ⟨61, pth, full, u, ⟨#[]⟩⟩ (.slice (some ⟨gp, 0, none⟩) pth.length cp) (.slice ad7 full.length cp7) (some ⟨vp, 0, none⟩) (w.heap.size + 1 + 1) wb.heap.size _ D1.out I1.out hlen (RowIn.wide P1.out (Nat.le_refl _) (by omega)) (RowIn.wide F1.out (by omega) (by omega)) (Nat.le_of_eq Z1.out.symm) (by show pth.length ≤ _; omega) (by show full.length ≤ _; have q1 := Hfl.out; have q2 := Htl.out; omega) (.inr rfl)).mono ?_
        rintro e w2 ⟨rfl, hb2⟩
        have hz12 : wb.heap.size ≤ w2.heap.size := by have := hb2.size; rw [Z1.out] at this; exact this
        have hbz : ∀ k, k < wb.heap.size → w2.heap[k]? = (wb.setCell ⟨w.heap.size + 1, 3, none⟩ (.pointer (some ⟨vp, 0, none⟩))).heap[k]? := fun k hk => hb2.block k (by rw [Z1.out]; exact hk)
        have Hbz : Hid _ := hbz
        have K2 : Hid (Kb b w w2) := Kb.of_new K1.out hlt hb2.os hb2.tape hb2.output hb2.size (fun k hk => hbz k (by omega))
        have D2 : Hid (RD w2 b s yb it) := RD.of_block D1.out (hbz b (by omega)) hb2.size
        have X2 : Hid (XN w2 (w.heap.size + 1) 61 (.slice (some ⟨gp, 0, none⟩) pth.length cp) (.slice ad7 full.length cp7) (some ⟨vp, 0, none⟩) ⟨#[]⟩) := XN.of_block X1.out (hbz _ (by omega)) hb2.size
        have Y2 : Hid (XN w2 w.heap.size 0 (.slice none 0 0) (.slice none 0 0) none ⟨#[]⟩) := XN.of_block Y1.out (hbz _ (by omega)) hb2.size
        have P2 : Hid (RowIn w2 (w.heap.size + 1 + 1) w3.heap.size 9 (.slice (some ⟨gp, 0, none⟩) pth.length cp) (pth.map .string)) := RowIn.frame P1.out (fun k _ k2 => hbz k (by omega))
        have F2 : Hid (RowIn w2 w3.heap.size w7.heap.size 9 (.slice ad7 full.length cp7) (full.map .string)) := RowIn.frame F1.out (fun k _ k2 => hbz k (by omega))
        have V2 : Hid (RVal 7 wc.heap.size wb.heap.size w2 vp u) := RVal.frame V1.out (fun k _ k2 => hbz k (by omega))
        clear hb2 hbz Hbz D1 K1 X1 Y1 P1 F1 V1 Z1 hE1 hE0 I1 a0 a1 a2 a3 a4 aF al d0 d1 d2 d3 d4 dF dl
        obtain ⟨a0, a1, a2, a3, a4, aF, al⟩ := X2.out
        obtain ⟨d0, d1, d2, d3, d4, dF, dl⟩ := Y2.out
        cases htw : rtwice items ⟨61, pth, full, u, ⟨#[]⟩⟩
        · have hfin : Hid (ritem s items x = (yb, ⟨61, pth, full, u, ⟨#[]⟩⟩)) := by
            unfold Hid
            rw [hri.out, if_neg (fun e => by rw [htw] at e; simp at e)]
          go_wp2_with fail
          have XF := Y2.out.put5 61 (.slice (some ⟨gp, 0, none⟩) pth.length cp) (.slice ad7 full.length cp7) (some ⟨vp, 0, none⟩) ⟨#[]⟩
          obtain ⟨f0, f1, f2, f3, f4, fF, fl⟩ := XF
          refine bodyPost_ret (v := .agg #[.int .u8 61, .slice (some ⟨gp, 0, none⟩) pth.length cp, .slice ad7 full.length cp7, .pointer (some ⟨vp, 0, none⟩), .string ⟨#[]⟩]) (by push_cast [put5] at f0 f1 f2 f3 f4; simp [results, Tryz.results57, go_sem, f0, f1, f2, f3, f4]) rfl ?_
          refine ⟨_, _, some ⟨vp, 0, none⟩, by rw [hfin.out]; rfl, by rw [hfin.out]; exact D2.out.put5 _ _ _ _ _ _ (by omega), K2.out.put5 hlt _ _ _ _ _ _ (Nat.le_refl _), ?_⟩
          rw [hfin.out]
          have hsz : ∀ n, n ≤ wb.heap.size → n ≤ (put5 w2 w.heap.size 61 (.slice (some ⟨gp, 0, none⟩) pth.length cp) (.slice ad7 full.length cp7) (some ⟨vp, 0, none⟩) ⟨#[]⟩).heap.size := fun n hn => by rw [put5_size]; omega
          exact ⟨_, _, _, rfl, (P2.out.put5 _ _ _ _ _ _ (by omega)).wide (by omega) (hsz _ (by omega)), (F2.out.put5 _ _ _ _ _ _ (by omega)).wide (by omega) (hsz _ (by omega)), fun _ => ⟨vp, rfl, (V2.out.put5 _ _ _ _ _ _ (by omega)).wide (by omega) (hsz _ (by omega))⟩, fun e => absurd rfl e, by show pth.length ≤ _; omega, by show full.length ≤ _; have q1 := Hfl.out; have q2 := Htl.out; omega⟩
        · have hfin : Hid (ritem s items x = (rno yb 6 x.a, ⟨61, pth, full, u, ⟨#[]⟩⟩)) := by
            unfold Hid
            rw [hri.out, if_pos ⟨He.out, htw⟩]
          go_wp2_with fail
          refine (no_any b s yb it 6 x.a _ D2.out).mono ?_
          rintro e w4 ⟨rfl, hd4, hk4⟩
          have K4 : Hid (Kb b w w4) := K2.out.trans hk4
          have D4 : Hid (RD w4 b s (rno yb 6 x.a) it) := hd4
          have X4 : Hid (XN w4 (w.heap.size + 1) 61 (.slice (some ⟨gp, 0, none⟩) pth.length cp) (.slice ad7 full.length cp7) (some ⟨vp, 0, none⟩) ⟨#[]⟩) := X2.out.kb hk4 (by omega)
          have Y4 : Hid (XN w4 w.heap.size 0 (.slice none 0 0) (.slice none 0 0) none ⟨#[]⟩) := Y2.out.kb hk4 (by omega)
          have P4 : Hid (RowIn w4 (w.heap.size + 1 + 1) w3.heap.size 9 (.slice (some ⟨gp, 0, none⟩) pth.length cp) (pth.map .string)) := P2.out.kb hk4 (by omega) (by omega)
          have F4 : Hid (RowIn w4 w3.heap.size w7.heap.size 9 (.slice ad7 full.length cp7) (full.map .string)) := F2.out.kb hk4 (by omega) (by omega)
          have V4 : Hid (RVal 7 wc.heap.size wb.heap.size w4 vp u) := V2.out.kb hk4 (by omega) (by omega)
          have hz4 := hk4.size
          clear hd4 hk4 D2 K2 X2 Y2 P2 F2 V2 a0 a1 a2 a3 a4 aF al d0 d1 d2 d3 d4 dF dl
          obtain ⟨a0, a1, a2, a3, a4, aF, al⟩ := X4.out
          obtain ⟨d0, d1, d2, d3, d4, dF, dl⟩ := Y4.out
          go_wp2_with fail
          have XF := Y4.out.put5 61 (.slice (some ⟨gp, 0, none⟩) pth.length cp) (.slice ad7 full.length cp7) (some ⟨vp, 0, none⟩) ⟨#[]⟩
          obtain ⟨f0, f1, f2, f3, f4, fF, fl⟩ := XF
          refine bodyPost_ret (v := .agg #[.int .u8 61, .slice (some ⟨gp, 0, none⟩) pth.length cp, .slice ad7 full.length cp7, .pointer (some ⟨vp, 0, none⟩), .string ⟨#[]⟩]) (by push_cast [put5] at f0 f1 f2 f3 f4; simp [results, Tryz.results57, go_sem, f0, f1, f2, f3, f4]) rfl ?_
          refine ⟨_, _, some ⟨vp, 0, none⟩, by rw [hfin.out]; rfl, by rw [hfin.out]; exact D4.out.put5 _ _ _ _ _ _ (by omega), K4.out.put5 hlt _ _ _ _ _ _ (Nat.le_refl _), ?_⟩
          rw [hfin.out]
          have hsz : ∀ n, n ≤ wb.heap.size → n ≤ (put5 w4 w.heap.size 61 (.slice (some ⟨gp, 0, none⟩) pth.length cp) (.slice ad7 full.length cp7) (some ⟨vp, 0, none⟩) ⟨#[]⟩).heap.size := fun n hn => by rw [put5_size]; omega
          exact ⟨_, _, _, rfl, (P4.out.put5 _ _ _ _ _ _ (by omega)).wide (by omega) (hsz _ (by omega)), (F4.out.put5 _ _ _ _ _ _ (by omega)).wide (by omega) (hsz _ (by omega)), fun _ => ⟨vp, rfl, (V4.out.put5 _ _ _ _ _ _ (by omega)).wide (by omega) (hsz _ (by omega))⟩, fun e => absurd rfl e, by show pth.length ≤ _; omega, by show full.length ≤ _; have q1 := Hfl.out; have q2 := Htl.out; omega⟩
      · have te : ((yb.e : Int) == 0) = false := by simpa using he
        have hfin : Hid (ritem s items x = (yb, ⟨61, pth, full, u, ⟨#[]⟩⟩)) := by
          unfold Hid
          rw [hri.out, if_neg (fun e => he e.1)]
        clear he
        go_wp2_with fail
        have XF := XN.put5 Y1.out 61 (.slice (some ⟨gp, 0, none⟩) pth.length cp) (.slice ad7 full.length cp7) (some ⟨vp, 0, none⟩) ⟨#[]⟩
        obtain ⟨f0, f1, f2, f3, f4, fF, fl⟩ := XF
        refine bodyPost_ret (v := .agg #[.int .u8 61, .slice (some ⟨gp, 0, none⟩) pth.length cp, .slice ad7 full.length cp7, .pointer (some ⟨vp, 0, none⟩), .string ⟨#[]⟩]) (by push_cast [put5] at f0 f1 f2 f3 f4; simp [results, Tryz.results57, go_sem, f0, f1, f2, f3, f4]) rfl ?_
        refine ⟨_, _, some ⟨vp, 0, none⟩, by rw [hfin.out]; rfl, by rw [hfin.out]; exact RD.put5 D1.out _ _ _ _ _ _ (by omega), Kb.put5 K1.out hlt _ _ _ _ _ _ (Nat.le_refl _), ?_⟩
        rw [hfin.out]
        have hsz : ∀ n, n ≤ wb.heap.size → n ≤ (put5 (wb.setCell ⟨w.heap.size + 1, 3, none⟩ (.pointer (some ⟨vp, 0, none⟩))) w.heap.size 61 (.slice (some ⟨gp, 0, none⟩) pth.length cp) (.slice ad7 full.length cp7) (some ⟨vp, 0, none⟩) ⟨#[]⟩).heap.size := fun n hn => by rw [put5_size]; rw [Z1.out]; exact hn
        exact ⟨_, _, _, rfl, (RowIn.put5 P1.out _ _ _ _ _ _ (by omega)).wide (by omega) (hsz _ (by omega)), (RowIn.put5 F1.out _ _ _ _ _ _ (by omega)).wide (by omega) (hsz _ (by omega)), fun _ => ⟨vp, rfl, (RVal.put5 V1.out _ _ _ _ _ _ (by omega)).wide (by omega) (hsz _ (by omega))⟩, fun e => absurd rfl e, by show pth.length ≤ _; omega, by show full.length ≤ _; have q1 := Hfl.out; have q2 := Htl.out; omega⟩
  · subst htv
    have hnews : ∀ (k : Nat) (j : Nat) (u : Value), (tab.map Value.string)[j]? = some u → ((w3.setCell ⟨w.heap.size + 1, 1, none⟩ (.slice (some ⟨gp, 0, none⟩) pth.length cp)).drewN k).cell? ((⟨g, 0, none⟩ : Addr).add j) = some u := fun k j u hu => World.ownsRow.cells (RowIn.of6 Htr.out) rfl j u hu
    have Hnews : Hid _ := hnews
    have hx5 : ∀ k, XN ((w3.setCell ⟨w.heap.size + 1, 1, none⟩ (.slice (some ⟨gp, 0, none⟩) pth.length cp)).drewN k) (w.heap.size + 1) 61 (.slice (some ⟨gp, 0, none⟩) pth.length cp) (.slice none 0 0) none ⟨#[]⟩ := fun k => XN.drewN X5.out k
    have Hx5 : Hid _ := hx5
    clear hnews hx5
    simp only [List.length_map] at Htc
    have Htl : Hid (tab.length ≤ 4001) := tl
    go_wp2_with fail
    go_region_law (first
      | (refine step_call1 rfl 88 (.tmp 37) 31 rfl _ _ (by first | (simp [Act.eval]; done) | simp [Act.eval, Act.put]) _ (call_table _ _) (Htc.out 1) ?_; rintro w6 ⟨m6, rfl⟩)
      | (refine step_append_own rfl (.tmp 36) (.tmp 38) 38 rfl w3.heap.size 9 j0 (.string ⟨#[]⟩) 1 16 Tryz.underlying38 hj hy0 hy1 hy2 rfl (by decide) (.slice none 0 0) 0 [] ?_ (World.ownsRow_nil _ _ _ _) ⟨g, 0, none⟩ tab.length cap (tab.map .string) ?_ ?_ ?_ ?_ ?_ ?_ ?_ ?_; (· simp [Act.eval]); (· simp [Act.eval]); (· simp); (· exact Hnews.out _); (· intro u hu; simp at hu; obtain ⟨_, _, rfl⟩ := hu; rfl); (· unfold maxLen; omega); (· omega); (· simp [World.setCell]); intro v6 w6 hown6 hgrow6 hnil6; obtain ⟨ad6, cp6, hv6⟩ := owns_form hown6; subst hv6; have hx6 := XN.of_block (Hx5.out m6) (hgrow6.block (w.heap.size + 1) (XN.lt (Hx5.out m6)) (by simp [Value.ownBlock])) hgrow6.size; have c62 := XN.c2 hx6; have c6F := XN.F hx6))
    all_goals
      have hbk : ∀ k, k < w3.heap.size → w6.heap[k]? = ((w3.setCell ⟨w.heap.size + 1, 1, none⟩ (.slice (some ⟨gp, 0, none⟩) pth.length cp)).drewN m6).heap[k]? := fun k hk => hgrow6.block k (by simpa [World.setCell] using hk) (by simp [Value.ownBlock])
      have hz6 : w3.heap.size ≤ w6.heap.size := by have := hgrow6.size; simpa [World.setCell] using this
      have R6 : Hid _ := RD.set_other (RD.grown (RD.drewN R5.out m6) hgrow6 (by simp [Value.ownBlock])) (w.heap.size + 1) 2 (.slice ad6 (0 + tab.length) cp6) (by omega)
      have K6 : Hid _ := Kb.set_new (Kb.grown (Kb.drewN K5.out m6) hlt hgrow6 (fun k hk => by simp [Value.ownBlock] at hk)) hlt (w.heap.size + 1) 2 (.slice ad6 (0 + tab.length) cp6) (by omega)
      have X6 : Hid _ := XN.setF hx6 (.slice ad6 (0 + tab.length) cp6)
      have Y6 : Hid _ := XN.set_other (XN.of_block (XN.drewN Y5.out m6) (hbk w.heap.size (by omega)) hgrow6.size) (w.heap.size + 1) 2 (.slice ad6 (0 + tab.length) cp6) (by omega)
      have P6 : Hid _ := RowIn.set (RowIn.frame (w' := w6) P5.out (fun k k1 k2 => hbk k k2)) (w.heap.size + 1) 2 (.slice ad6 (0 + tab.length) cp6) (by omega)
      have O6 : Hid _ := owns_set_other hown6 (w.heap.size + 1) 2 (.slice ad6 (0 + tab.length) cp6) (by omega)
      simp only [Nat.zero_add, List.nil_append] at R6 K6 X6 Y6 P6 O6
      have HZ6 : Hid (w3.heap.size ≤ (w6.setCell ⟨w.heap.size + 1, 2, none⟩ (.slice ad6 tab.length cp6)).heap.size) := by unfold Hid; simpa [World.setCell] using hz6
      clear hown6 hgrow6 hnil6 hx6 c62 c6F hbk hz6 Hnews Hx5 R5 K5 X5 Y5 P5 I5 Z5 Htr Htc e2 eF el c0 c1 c2 c3 c4 cF cl hg1 hg2 hg3 hg4 hg5 hg6
      obtain ⟨a0, a1, a2, a3, a4, aF, al⟩ := X6.out
      have hgn : Hid _ := K6.out.size
      go_wp2_with (at_builtin; refine wpList_append_own _ rfl (.tmp 42) (.tmp 44) 38 rfl w3.heap.size 9 j0 (.string ⟨#[]⟩) 1 16 Tryz.underlying38 hj hy0 hy1 hy2 rfl (by decide) _ _ _ rfl O6.out ⟨gp, 0, none⟩ pth.length cp (pth.map .string) rfl (by simp) (fun j u hu => World.ownsRow.cells (RowIn.of6 P6.out) rfl j u hu) (by intro u hu; simp at hu; obtain ⟨_, _, rfl⟩ := hu; rfl) (by unfold maxLen; omega) (by omega) HZ6.out ?_; intro v7 w7 hown7 hgrow7 hnil7; refine Hid.out ?_)
      have D7 : Hid (RD w7 b s y3 it) := RD.grown R6.out hgrow7 (owns_ne O6.out (by omega))
      have K7 : Hid (Kb b w w7) := Kb.grown K6.out hlt hgrow7 (fun k hk => by have := (World.ownsRow.lt O6.out k hk).1; omega)
      have X7 : Hid (XN w7 (w.heap.size + 1) 61 (.slice (some ⟨gp, 0, none⟩) pth.length cp) (.slice ad6 tab.length cp6) none ⟨#[]⟩) := XN.of_block X6.out (hgrow7.block (w.heap.size + 1) al (owns_ne O6.out (by omega))) hgrow7.size
      have Y7 : Hid (XN w7 w.heap.size 0 (.slice none 0 0) (.slice none 0 0) none ⟨#[]⟩) := XN.of_block Y6.out (hgrow7.block w.heap.size (XN.lt Y6.out) (owns_ne O6.out (by omega))) hgrow7.size
      have P7 : Hid (RowIn w7 (w.heap.size + 1 + 1) w3.heap.size 9 (.slice (some ⟨gp, 0, none⟩) pth.length cp) (pth.map .string)) := RowIn.frame P6.out (fun k k1 k2 => hgrow7.block k (Nat.lt_of_lt_of_le k2 HZ6.out) (owns_ne O6.out k2))
      have O7 : Hid (w7.ownsRow w3.heap.size 9 1 v7 (tab ++ pth).length ((tab ++ pth).map .string)) := by
        unfold Hid
        simpa using hown7
      have hz7 : w3.heap.size ≤ w7.heap.size := Nat.le_trans HZ6.out hgrow7.size
      clear hown7 hgrow7 hnil7 R6 K6 X6 Y6 P6 O6 HZ6 hgn a0 a1 a2 a3 a4 aF al
      have Hfl : Hid ((tab ++ pth).length = tab.length + pth.length) := by unfold Hid; simp
      generalize hfull : tab ++ pth = full at *
      clear hfull
      obtain ⟨ad7, cp7, ev7⟩ := owns_form O7.out
      subst ev7
      obtain ⟨a0, a1, a2, a3, a4, aF, al⟩ := X7.out
      have R8 : Hid _ := D7.out.set_other (w.heap.size + 1) 2 (.slice ad7 full.length cp7) (by omega)
      have K8 : Hid _ := K7.out.set_new hlt (w.heap.size + 1) 2 (.slice ad7 full.length cp7) (by omega)
      have X8 : Hid _ := X7.out.setF (.slice ad7 full.length cp7)
      have Y8 : Hid _ := Y7.out.set_other (w.heap.size + 1) 2 (.slice ad7 full.length cp7) (by omega)
      have P8 : Hid _ := P7.out.set (w.heap.size + 1) 2 (.slice ad7 full.length cp7) (by omega)
      have F8 : Hid _ := (owns_rowIn O7.out).set (w.heap.size + 1) 2 (.slice ad7 full.length cp7) (by omega)
      have Z8 : Hid ((w7.setCell ⟨w.heap.size + 1, 2, none⟩ (.slice ad7 full.length cp7)).heap.size = w7.heap.size) := by unfold Hid; simp [World.setCell]
      clear D7 K7 X7 Y7 P7 O7
      unfold Hid
      go_wp2_with fail
      refine (blanks_any b s y3 it false _ hs (by omega) R8.out).mono ?_
      rintro e w9 ⟨rfl, hd9, hk9⟩
      have hg9 := gd_blanks (Gd.refl Hg3.out) false
      have hd9' : Hid (RD w9 b s (rblanks s y3 false) it) := hd9
      have hy9 := hg9.1.1
      have Hg9 : Hid (Inv s (rblanks s y3 false)) := hg9.1
      clear hd9 hg9 a0 a1 a2 a3 a4 aF al
      generalize rblanks s y3 false = y9 at *
      go_wp2_with fail
      refine (must_any b s y9 it 61 _ hs (by omega) hd9'.out).mono ?_
      rintro e wa ⟨rfl, hda, hka⟩
      have hga := gd_must (Gd.refl Hg9.out) 61
      have hda' : Hid (RD wa b s (rmust s y9 61) it) := hda
      have hya := hga.1.1
      have Hga : Hid (Inv s (rmust s y9 61)) := hga.1
      clear hda hga
      generalize rmust s y9 61 = ya at *
      go_wp2_with fail
      refine (blanks_any b s ya it false _ hs (by omega) hda'.out).mono ?_
      rintro e wc ⟨rfl, hdc, hkc⟩
      have hgc := gd_blanks (Gd.refl Hga.out) false
      have hdc' : Hid (RD wc b s (rblanks s ya false) it) := hdc
      have hyc := hgc.1.1
      have Hgc : Hid (Inv s (rblanks s ya false)) := hgc.1
      clear hdc hgc
      generalize rblanks s ya false = yc at *
      go_wp2_with fail
      refine (value_any b s it hs yc _ Hgc.out hdc'.out).mono ?_
      rintro e wb ⟨vp, rfl, hdb, hkb, hrb⟩
      have hkcb := (hk9.trans hka).trans hkc
      have hkall := hkcb.trans hkb
      have hzc : w7.heap.size ≤ wc.heap.size := by have := hkcb.size; rw [Z8.out] at this; exact this
      have Db : Hid (RD wb b s (rval s 7 0 yc).1 it) := hdb
      have Vb : Hid (RVal 7 wc.heap.size wb.heap.size wb vp (rval s 7 0 yc).2) := hrb
      have Kb' : Hid (Kb b w wb) := Kb.trans K8.out hkall
      have Xb : Hid (XN wb (w.heap.size + 1) 61 (.slice (some ⟨gp, 0, none⟩) pth.length cp) (.slice ad7 full.length cp7) none ⟨#[]⟩) := XN.kb X8.out hkall (by omega)
      have Yb : Hid (XN wb w.heap.size 0 (.slice none 0 0) (.slice none 0 0) none ⟨#[]⟩) := XN.kb Y8.out hkall (by omega)
      have Pb : Hid (RowIn wb (w.heap.size + 1 + 1) w3.heap.size 9 (.slice (some ⟨gp, 0, none⟩) pth.length cp) (pth.map .string)) := RowIn.kb P8.out hkall (by omega) (by rw [Z8.out]; exact hz7)
      have Fb : Hid (RowIn wb w3.heap.size w7.heap.size 9 (.slice ad7 full.length cp7) (full.map .string)) := RowIn.kb F8.out hkall (by omega) (by rw [Z8.out]; exact Nat.le_refl _)
      have hzb := hkb.size
      clear hdb hrb hkb hkcb hkall hk9 hka hkc hd9' hda' hdc' R8 K8 X8 Y8 P8 F8 Z8 Hg9 Hga Hgc
      generalize (rval s 7 0 yc).2 = u at *
      generalize (rval s 7 0 yc).1 = yb at *
      obtain ⟨a0, a1, a2, a3, a4, aF, al⟩ := Xb.out
      have D1 : Hid _ := Db.out.set_other (w.heap.size + 1) 3 (.pointer (some ⟨vp, 0, none⟩)) (by omega)
      have K1 : Hid _ := Kb'.out.set_new hlt (w.heap.size + 1) 3 (.pointer (some ⟨vp, 0, none⟩)) (by omega)
      have X1 : Hid _ := Xb.out.setV (some ⟨vp, 0, none⟩)
      have Y1 : Hid _ := Yb.out.set_other (w.heap.size + 1) 3 (.pointer (some ⟨vp, 0, none⟩)) (by omega)
      have P1 : Hid _ := Pb.out.set (w.heap.size + 1) 3 (.pointer (some ⟨vp, 0, none⟩)) (by omega)
      have F1 : Hid _ := Fb.out.set (w.heap.size + 1) 3 (.pointer (some ⟨vp, 0, none⟩)) (by omega)
      have V1 : Hid (RVal 7 wc.heap.size wb.heap.size (wb.setCell ⟨w.heap.size + 1, 3, none⟩ (.pointer (some ⟨vp, 0, none⟩))) vp u) := Vb.out.set (w.heap.size + 1) 3 (.pointer (some ⟨vp, 0, none⟩)) (by omega)
      have Z1 : Hid ((wb.setCell ⟨w.heap.size + 1, 3, none⟩ (.pointer (some ⟨vp, 0, none⟩))).heap.size = wb.heap.size) := by unfold Hid; simp [World.setCell]
      have hE1 := RD.E D1.out
      have hE0 := RD.E Db.out
      have I1 : Hid _ := HI.out.kb K1.out
      obtain ⟨d0, d1, d2, d3, d4, dF, dl⟩ := Yb.out
      clear Db Kb' Xb Yb Pb Fb Vb
      by_cases he : yb.e = 0
      · have te : ((yb.e : Int) == 0) = true := by simp [he]
        have He : Hid (yb.e = 0) := he
        clear he
        go_wp2_with fail
        refine (twice_any b s yb it cs items ⟨61, pth, full, u, ⟨#[]⟩⟩ (.slice (some ⟨gp, 0, none⟩) pth.length cp) (.slice ad7 full.length cp7) (some ⟨vp, 0, none⟩) (w.heap.size + 1 + 1) wb.heap.size _ D1.out I1.out hlen (RowIn.wide P1.out (Nat.le_refl _) (by omega)) (RowIn.wide F1.out (by omega) (by omega)) (Nat.le_of_eq Z1.out.symm) (by show pth.length ≤ _; omega) (by show full.length ≤ _; have q1 := Hfl.out; have q2 := Htl.out; omega) (.inr rfl)).mono ?_
        rintro e w2 ⟨rfl, hb2⟩
        have hz12 : wb.heap.size ≤ w2.heap.size := by have := hb2.size; rw [Z1.out] at this; exact this
        have hbz : ∀ k, k < wb.heap.size → w2.heap[k]? = (wb.setCell ⟨w.heap.size + 1, 3, none⟩ (.pointer (some ⟨vp, 0, none⟩))).heap[k]? := fun k hk => hb2.block k (by rw [Z1.out]; exact hk)
        have Hbz : Hid _ := hbz
        have K2 : Hid (Kb b w w2) := Kb.of_new K1.out hlt hb2.os hb2.tape hb2.output hb2.size (fun k hk => hbz k (by omega))
        have D2 : Hid (RD w2 b s yb it) := RD.of_block D1.out (hbz b (by omega)) hb2.size
        have X2 : Hid (XN w2 (w.heap.size + 1) 61 (.slice (some ⟨gp, 0, none⟩) pth.length cp) (.slice ad7 full.length cp7) (some ⟨vp, 0, none⟩) ⟨#[]⟩) := XN.of_block X1.out (hbz _ (by omega)) hb2.size
        have Y2 : Hid (XN w2 w.heap.size 0 (.slice none 0 0) (.slice none 0 0) none ⟨#[]⟩) := XN.of_block Y1.out (hbz _ (by omega)) hb2.size
        have P2 : Hid (RowIn w2 (w.heap.size + 1 + 1) w3.heap.size 9 (.slice (some ⟨gp, 0, none⟩) pth.length cp) (pth.map .string)) := RowIn.frame P1.out (fun k _ k2 => hbz k (by omega))
        have F2 : Hid (RowIn w2 w3.heap.size w7.heap.size 9 (.slice ad7 full.length cp7) (full.map .string)) := RowIn.frame F1.out (fun k _ k2 => hbz k (by omega))
        have V2 : Hid (RVal 7 wc.heap.size wb.heap.size w2 vp u) := RVal.frame V1.out (fun k _ k2 => hbz k (by omega))
        clear hb2 hbz Hbz D1 K1 X1 Y1 P1 F1 V1 Z1 hE1 hE0 I1 a0 a1 a2 a3 a4 aF al d0 d1 d2 d3 d4 dF dl
        obtain ⟨a0, a1, a2, a3, a4, aF, al⟩ := X2.out
        obtain ⟨d0, d1, d2, d3, d4, dF, dl⟩ := Y2.out
        cases htw : rtwice items ⟨61, pth, full, u, ⟨#[]⟩⟩
        · have hfin : Hid (ritem s items x = (yb, ⟨61, pth, full, u, ⟨#[]⟩⟩)) := by
            unfold Hid
            rw [hri.out, if_neg (fun e => by rw [htw] at e; simp at e)]
          go_wp2_with fail
          have XF := Y2.out.put5 61 (.slice (some ⟨gp, 0, none⟩) pth.length cp) (.slice ad7 full.length cp7) (some ⟨vp, 0, none⟩) ⟨#[]⟩
          obtain ⟨f0, f1, f2, f3, f4, fF, fl⟩ := XF
          refine bodyPost_ret (v := .agg #[.int .u8 61, .slice (some ⟨gp, 0, none⟩) pth.length cp, .slice ad7 full.length cp7, .pointer (some ⟨vp, 0, none⟩), .string ⟨#[]⟩]) (by push_cast [put5] at f0 f1 f2 f3 f4; simp [results, Tryz.results57, go_sem, f0, f1, f2, f3, f4]) rfl ?_
          refine ⟨_, _, some ⟨vp, 0, none⟩, by rw [hfin.out]; rfl, by rw [hfin.out]; exact D2.out.put5 _ _ _ _ _ _ (by omega), K2.out.put5 hlt _ _ _ _ _ _ (Nat.le_refl _), ?_⟩
          rw [hfin.out]
          have hsz : ∀ n, n ≤ wb.heap.size → n ≤ (put5 w2 w.heap.size 61 (.slice (some ⟨gp, 0, none⟩) pth.length cp) (.slice ad7 full.length cp7) (some ⟨vp, 0, none⟩) ⟨#[]⟩).heap.size := fun n hn => by rw [put5_size]; omega
          exact ⟨_, _, _, rfl, (P2.out.put5 _ _ _ _ _ _ (by omega)).wide (by omega) (hsz _ (by omega)), (F2.out.put5 _ _ _ _ _ _ (by omega)).wide (by omega) (hsz _ (by omega)), fun _ => ⟨vp, rfl, (V2.out.put5 _ _ _ _ _ _ (by omega)).wide (by omega) (hsz _ (by omega))⟩, fun e => absurd rfl e, by show pth.length ≤ _; omega, by show full.length ≤ _; have q1 := Hfl.out; have q2 := Htl.out; omega⟩
        · have hfin : Hid (ritem s items x = (rno yb 6 x.a, ⟨61, pth, full, u, ⟨#[]⟩⟩)) := by
            unfold Hid
            rw [hri.out, if_pos ⟨He.out, htw⟩]
          go_wp2_with fail
          refine (no_any b s yb it 6 x.a _ D2.out).mono ?_
          rintro e w4 ⟨rfl, hd4, hk4⟩
          have K4 : Hid (Kb b w w4) := K2.out.trans hk4
          have D4 : Hid (RD w4 b s (rno yb 6 x.a) it) := hd4
          have X4 : Hid (XN w4 (w.heap.size + 1) 61 (.slice (some ⟨gp, 0, none⟩) pth.length cp) (.slice ad7 full.length cp7) (some ⟨vp, 0, none⟩) ⟨#[]⟩) := X2.out.kb hk4 (by omega)
          have Y4 : Hid (XN w4 w.heap.size 0 (.slice none 0 0) (.slice none 0 0) none ⟨#[]⟩) := Y2.out.kb hk4 (by omega)
          have P4 : Hid (RowIn w4 (w.heap.size + 1 + 1) w3.heap.size 9 (.slice (some ⟨gp, 0, none⟩) pth.length cp) (pth.map .string)) := P2.out.kb hk4 (by omega) (by omega)
          have F4 : Hid (RowIn w4 w3.heap.size w7.heap.size 9 (.slice ad7 full.length cp7) (full.map .string)) := F2.out.kb hk4 (by omega) (by omega)
          have V4 : Hid (RVal 7 wc.heap.size wb.heap.size w4 vp u) := V2.out.kb hk4 (by omega) (by omega)
          have hz4 := hk4.size
          clear hd4 hk4 D2 K2 X2 Y2 P2 F2 V2 a0 a1 a2 a3 a4 aF al d0 d1 d2 d3 d4 dF dl
          obtain ⟨a0, a1, a2, a3, a4, aF, al⟩ := X4.out
          obtain ⟨d0, d1, d2, d3, d4, dF, dl⟩ := Y4.out
          go_wp2_with fail
          have XF := Y4.out.put5 61 (.slice (some ⟨gp, 0, none⟩) pth.length cp) (.slice ad7 full.length cp7) (some ⟨vp, 0, none⟩) ⟨#[]⟩
          obtain ⟨f0, f1, f2, f3, f4, fF, fl⟩ := XF
          refine bodyPost_ret (v := .agg #[.int .u8 61, .slice (some ⟨gp, 0, none⟩) pth.length cp, .slice ad7 full.length cp7, .pointer (some ⟨vp, 0, none⟩), .string ⟨#[]⟩]) (by push_cast [put5] at f0 f1 f2 f3 f4; simp [results, Tryz.results57, go_sem, f0, f1, f2, f3, f4]) rfl ?_
          refine ⟨_, _, some ⟨vp, 0, none⟩, by rw [hfin.out]; rfl, by rw [hfin.out]; exact D4.out.put5 _ _ _ _ _ _ (by omega), K4.out.put5 hlt _ _ _ _ _ _ (Nat.le_refl _), ?_⟩
          rw [hfin.out]
          have hsz : ∀ n, n ≤ wb.heap.size → n ≤ (put5 w4 w.heap.size 61 (.slice (some ⟨gp, 0, none⟩) pth.length cp) (.slice ad7 full.length cp7) (some ⟨vp, 0, none⟩) ⟨#[]⟩).heap.size := fun n hn => by rw [put5_size]; omega
          exact ⟨_, _, _, rfl, (P4.out.put5 _ _ _ _ _ _ (by omega)).wide (by omega) (hsz _ (by omega)), (F4.out.put5 _ _ _ _ _ _ (by omega)).wide (by omega) (hsz _ (by omega)), fun _ => ⟨vp, rfl, (V4.out.put5 _ _ _ _ _ _ (by omega)).wide (by omega) (hsz _ (by omega))⟩, fun e => absurd rfl e, by show pth.length ≤ _; omega, by show full.length ≤ _; have q1 := Hfl.out; have q2 := Htl.out; omega⟩
      · have te : ((yb.e : Int) == 0) = false := by simpa using he
        have hfin : Hid (ritem s items x = (yb, ⟨61, pth, full, u, ⟨#[]⟩⟩)) := by
          unfold Hid
          rw [hri.out, if_neg (fun e => he e.1)]
        clear he
        go_wp2_with fail
        have XF := XN.put5 Y1.out 61 (.slice (some ⟨gp, 0, none⟩) pth.length cp) (.slice ad7 full.length cp7) (some ⟨vp, 0, none⟩) ⟨#[]⟩
        obtain ⟨f0, f1, f2, f3, f4, fF, fl⟩ := XF
        refine bodyPost_ret (v := .agg #[.int .u8 61, .slice (some ⟨gp, 0, none⟩) pth.length cp, .slice ad7 full.length cp7, .pointer (some ⟨vp, 0, none⟩), .string ⟨#[]⟩]) (by push_cast [put5] at f0 f1 f2 f3 f4; simp [results, Tryz.results57, go_sem, f0, f1, f2, f3, f4]) rfl ?_
        refine ⟨_, _, some ⟨vp, 0, none⟩, by rw [hfin.out]; rfl, by rw [hfin.out]; exact RD.put5 D1.out _ _ _ _ _ _ (by omega), Kb.put5 K1.out hlt _ _ _ _ _ _ (Nat.le_refl _), ?_⟩
        rw [hfin.out]
        have hsz : ∀ n, n ≤ wb.heap.size → n ≤ (put5 (wb.setCell ⟨w.heap.size + 1, 3, none⟩ (.pointer (some ⟨vp, 0, none⟩))) w.heap.size 61 (.slice (some ⟨gp, 0, none⟩) pth.length cp) (.slice ad7 full.length cp7) (some ⟨vp, 0, none⟩) ⟨#[]⟩).heap.size := fun n hn => by rw [put5_size]; rw [Z1.out]; exact hn
        exact ⟨_, _, _, rfl, (RowIn.put5 P1.out _ _ _ _ _ _ (by omega)).wide (by omega) (hsz _ (by omega)), (RowIn.put5 F1.out _ _ _ _ _ _ (by omega)).wide (by omega) (hsz _ (by omega)), fun _ => ⟨vp, rfl, (RVal.put5 V1.out _ _ _ _ _ _ (by omega)).wide (by omega) (hsz _ (by omega))⟩, fun e => absurd rfl e, by show pth.length ≤ _; omega, by show full.length ≤ _; have q1 := Hfl.out; have q2 := Htl.out; omega⟩

theorem item_any (b : Nat) (s : ByteArray) (x : St) (it : Value) (cs : List (List Value)) (items : List It) (w : World) (hs : s.size ≤ 4000) (h : RD w b s x it) (hits : Its w b it cs items) (hlen : items.length ≤ 10000)
    (hinv : Inv s x) (hxe : x.e = 0) :
    Calls Tryz.prog 57 #[.pointer (some ⟨b, 0, none⟩)] w fun e w' => ∃ pv fv vo, e = .returned (.agg #[.int .u8 (ritem s items x).2.k, pv, fv, .pointer vo, .string (ritem s items x).2.rem]) ∧ RD w' b s (ritem s items x).1 it ∧ Kb b w w' ∧
      RIt w.heap.size w'.heap.size w' [.int .u8 (ritem s items x).2.k, pv, fv, .pointer vo, .string (ritem s items x).2.rem] (ritem s items x).2 := by
  cases hr : ris s x 91
  · exact item_pair b s x it cs items w hs h hits hlen hinv hxe hr
  · exact item_head b s x it cs items w hs h hits hlen hinv hr
end Go.Proofs.YtdebjhdafnpfkaaGreatDoor
