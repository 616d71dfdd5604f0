import Derived.Test.YtdebjhdafnpfkabGreatDoorK09
import Derived.Test.YtdebjhdafnpfkabGreatDoorK02
import Derived.Test.YtdebjhdafnpfkabGreatDoorK07
namespace Go.Proofs.YtdebjhdafnpfkabGreatDoor
open Go.ChangeShapes Go.WideShapes Go.ChangeAt Go.RowKit
set_option linter.unusedVariables false
set_option linter.unusedSimpArgs false
theorem info_value : (Tryz.prog.info? 66).map (fun i => (i.zero, i.size, i.bytes)) = some (some .nilIface, 1, 16) := by kernel_rfl
/-- What the program's reader of values does, at a depth. -/
def PValF (f : St → St × V) (d nest b : Nat) (s : ByteArray) (m : Int) : Prop := ∀ (x : St) (w : World), x.e = 0 → x.a ≤ s.size → w.cell? ⟨1, 0, none⟩ = some (.int .i64 m) → PC w b s x.a →
  Calls Tryz.prog 76 #[.pointer (some ⟨b, 0, none⟩), .int .i64 nest] w fun e w' =>
    (∃ v, e = .returned v ∧ PVal d w.heap.size w'.heap.size w' v (f x).2 ∧ POk s b w w' (f x).1) ∨ PBad s b w e w' (f x).1
def PValC (d nest b : Nat) (s : ByteArray) (m : Int) : Prop := PValF (rval s d nest) d nest b s m
theorem PBad.same {s : ByteArray} {b : Nat} {w w' : World} {e : Ending} {y z : St} (h : PBad s b w e w' y) (he : z.e = y.e) (hp : z.p = y.p) : PBad s b w e w' z := by
  unfold PBad at *
  rw [he, hp]
  exact h
theorem cell_kc {b : Nat} {w w' : World} {m : Int} (h : w.cell? ⟨1, 0, none⟩ = some (.int .i64 m)) (hG : 1 < b) (k : Kc b w w') : w'.cell? ⟨1, 0, none⟩ = some (.int .i64 m) := by
  rw [k.kb.cell (lt_of_cell h) (by omega)]
  exact h
theorem PC.drew {w : World} {b : Nat} {s : ByteArray} {a : Nat} (h : PC w b s a) : PC w.drew b s a := h.drewN 1
set_option maxRecDepth 100000 in
set_option maxHeartbeats 4000000 in
theorem readList_any (d nest b : Nat) (s : ByteArray) (x : St) (m : Int) (w : World) (hs : s.size ≤ 4000) (he : x.e = 0) (hq : bt s x.a = 91) (hn6 : nest ≤ 6) (hG : 1 < b)
    (hV : PValC d nest b s m) (hm : w.cell? ⟨1, 0, none⟩ = some (.int .i64 m)) (h : PC w b s x.a) :
    Calls Tryz.prog 88 #[.pointer (some ⟨b, 0, none⟩), .int .i64 nest] w fun e w' =>
      (∃ lv, e = .returned lv ∧ PVal (d + 1) w.heap.size w'.heap.size w' (.iface 164 lv) (rlist s (rval s d nest) x).2 ∧ POk s b w w' (rlist s (rval s d nest) x).1) ∨ PBad s b w e w' (rlist s (rval s d nest) x).1 := by
  obtain ⟨i0, hi, hz0, hz1, hz2⟩ := info_parts info_value
  have ha := bt_lt' s x.a 91 hq (by decide)
  have h' : Hid (PC w b s x.a) := h
  have hltw := h.lt
  have HV : Hid (PValF (rval s d nest) d nest b s m) := hV
  have Hm : Hid _ := hm
  have hgf : Hid (GdF s (rval s d nest)) := gd_val d nest
  have M : Hid (rmust s x 91 = ⟨x.a + 1, x.e, x.p⟩) := rmust_hit s x 91 he (by decide) hq
  have R0 : Hid _ := rlist_eq s (rval s d nest) x
  have HE : Hid (x.e = 0) := he
  clear he hq h hV hm
  generalize rval s d nest = f at *
  go_enter Tryz.func88, Tryz.ntmps88
  go_wp2_with fail
  refine (pass_any b s x 91 _ hs HE.out (by omega) (by decide) h'.out).mono ?_
  rintro e w1 (⟨rfl, hok⟩ | ⟨hb, _⟩)
  · rw [M.out] at hok
    have hok' : Hid (POk s b w w1 ⟨x.a + 1, x.e, x.p⟩) := hok
    clear hok
    go_wp2_with fail
    refine (take_isBlankInList b s (x.a + 1) _ hs (by omega) hok'.out.pc).mono ?_
    rintro e w2 ⟨rfl, hp2, hk2⟩
    have HP2 : Hid (PC w2 b s (rblanks s ⟨x.a + 1, x.e, x.p⟩ true).a) := hp2
    have HK2 : Hid (Kc b w w2) := hok'.out.kc.trans hk2
    clear hp2 hk2 hok' h'
    have hz2w := HK2.out.kb.size
    go_wp2_with fail
    go_loopw [5] (fun u5 wr => ∃ (n : Nat) (y : St) (l : List V) (vs : List Value), Hid (rlistLoop s f (s.size + 3 - x.a) ⟨x.a + 1, x.e, x.p⟩ [] = rlistLoop s f (n + 1) y l) ∧ Hid (y.e = 0) ∧
        Hid (PC wr b s (rblanks s y true).a) ∧ Hid (Kc b w wr) ∧ y.a ≤ s.size ∧ s.size + 2 ≤ n + y.a ∧ vs.length ≤ y.a ∧ Hid (wr.ownsRow w.heap.size 66 1 u5 vs.length vs) ∧ Hid (PCh d wr w.heap.size u5 vs l)) (fun _ wr => s.size + 1 - atOf wr b)
    case atStart =>
      refine ⟨s.size + 2 - x.a, ⟨x.a + 1, x.e, x.p⟩, [], [], ?_, HE.out, HP2.out, HK2, ?_, ?_, Nat.zero_le _, World.ownsRow_nil _ _ _ _, PCh.nil _ _ _ _⟩
      · unfold Hid; rw [show s.size + 2 - x.a + 1 = s.size + 3 - x.a by omega]
      · show x.a + 1 ≤ _; omega
      · show s.size + 2 ≤ s.size + 2 - x.a + (x.a + 1); omega
    case round =>
      clear M HP2 HK2
      obtain ⟨n, y, l, vs, hr, hy0, h1, hk, hy1, hn, hvs, hown, hch⟩ := hrel
      have hz1' : (rblanks s y true).a ≤ s.size := scan_le _ _ _ hy1
      have hz2' : y.a ≤ (rblanks s y true).a := scan_ge _ _ _
      obtain ⟨ad0, cap0, hv0⟩ := ownsS_form hown.out
      subst hv0
      by_cases hd : bt s (rblanks s y true).a = 93
      · have t0 : ((bt s (rblanks s y true).a : Int) != 93) = false := by simp; omega
        have D : Hid (rlistLoop s f (n + 1) y l = (rblanks s y true, l)) := listLoop_end s f n y l hy0.out hd
        clear hd
        generalize hzz : rblanks s y true = z at *
        have hze : Hid (z.e = 0) := by unfold Hid; rw [← hzz]; exact hy0.out
        clear hzz
        go_wp2_with fail
        refine (peek_any b s z.a _ hs hz1' h1.out).mono ?_
        rintro e w3 ⟨rfl, k3, rfl⟩
        go_wp2_with fail
        refine (pass_any b s z 93 _ hs hze.out hz1' (by decide) (h1.out.drewN k3)).mono ?_
        have Fin : Hid (rlist s f x = (rmust s z 93, ⟨108, 0, ⟨#[]⟩, l, []⟩)) := by
          unfold Hid
          rw [R0.out, hr.out, D.out]
        rintro e w4 (⟨rfl, hok⟩ | hbad)
        · have hok' : Hid (POk s b (wr.drewN k3) w4 (rmust s z 93)) := hok
          clear hok
          go_wp2_with fail
          go_ret
          refine .inl ⟨_, rfl, ?_, ?_⟩
          · rw [Fin.out]
            have hkk : Kb b wr w4 := ((Kb.refl _ _).drewN k3).trans hok'.out.kc.kb
            exact (hch.out.kb hkk hltw).list rfl (ownsS_kc hown.out hkk hltw)
          · rw [Fin.out]
            exact ⟨hok'.out.e, hok'.out.pc, (hk.out.drewN k3).trans hok'.out.kc⟩
        · have hb := hbad.1
          obtain ⟨q, hq⟩ := hbad.2
          have he' := hq.e
          subst he'
          refine ⟨rfl, .inr ?_⟩
          rw [Fin.out]
          exact ⟨hb, q, hq.trans (hk.out.kb.drewN k3)⟩
      · have t0 : ((bt s (rblanks s y true).a : Int) != 93) = true := by simp; omega
        have D1 : Hid ((f (rblanks s y true)).1.e ≠ 0 → rlistLoop s f (n + 1) y l = (rblanks s (f (rblanks s y true)).1 true, l ++ [(f (rblanks s y true)).2])) := listLoop_bad s f n y l hy0.out hd
        have D2 : Hid ((f (rblanks s y true)).1.e = 0 → bt s (rblanks s (f (rblanks s y true)).1 true).a = 44 → rlistLoop s f (n + 1) y l = rlistLoop s f n ⟨(rblanks s (f (rblanks s y true)).1 true).a + 1, (f (rblanks s y true)).1.e, (f (rblanks s y true)).1.p⟩ (l ++ [(f (rblanks s y true)).2])) := listLoop_more s f n y l hy0.out hd
        have D3 : Hid ((f (rblanks s y true)).1.e = 0 → bt s (rblanks s (f (rblanks s y true)).1 true).a ≠ 44 → rlistLoop s f (n + 1) y l = (rblanks s (f (rblanks s y true)).1 true, l ++ [(f (rblanks s y true)).2])) := listLoop_last s f n y l hy0.out hd
        clear hd
        generalize hzz : rblanks s y true = z at *
        have hze : Hid (z.e = 0) := by unfold Hid; rw [← hzz]; exact hy0.out
        clear hzz
        have hgd := hgf.out z ⟨by omega, fun _ => hz1'⟩
        go_wp2_with fail
        refine (peek_any b s z.a _ hs hz1' h1.out).mono ?_
        rintro e w3 ⟨rfl, k3, rfl⟩
        go_wp2_with fail
        refine (HV.out z _ hze.out hz1' (cell_kc (b := b) Hm.out hG (hk.out.drewN k3)) (h1.out.drewN k3)).mono ?_
        rintro e w4 (⟨v, rfl, hpv, hok⟩ | hbad)
        · obtain ⟨vt, vu, rfl⟩ := hpv.iface
          have hpv' : Hid (PVal d wr.heap.size w4.heap.size w4 (.iface vt vu) (f z).2) := hpv
          have hok' : Hid (POk s b (wr.drewN k3) w4 (f z).1) := hok
          have hgd1 : (f z).1.a ≤ s.size := hgd.1.2 hok.e
          have hgd2 := hgd.2
          have hfe : Hid ((f z).1.e = 0) := hok.e
          have hlt4 := hok.pc.lt
          have hkr : Hid (Kb b wr w4) := ((Kb.refl _ _).drewN k3).trans hok.kc.kb
          clear hpv hok hgd
          have hzr := hk.out.kb.size
          have hz4 := hkr.out.size
          have hown4 : Hid (w4.ownsRow w.heap.size 66 1 (.slice ad0 vs.length cap0) vs.length vs) := ownsS_kc hown.out hkr.out hltw
          have hch4 : Hid (PCh d w4 w.heap.size (.slice ad0 vs.length cap0) (vs ++ [Value.iface vt vu]) (l ++ [(f z).2])) :=
            (hch.out.kb hkr.out hltw).snoc hzr (Nat.le_refl _) (fun k e => (hown.out.lt k e).2) hpv'.out
          go_wp2_with (at_builtin; refine wpList_append_own_at _ rfl (.tmp 19) (.tmp 23) 164 rfl w.heap.size 66 i0 .nilIface 1 16 Tryz.underlying164 hi hz0 hz1 hz2 rfl (by decide) _ _ _ rfl (hown4.out.alloc _) ⟨w4.heap.size, 0, none⟩ 1 1 [.iface vt vu] rfl rfl (cell_one_new _ _ _) (by intro u hu; simp at hu; subst hu; rfl) (by unfold maxLen; omega) (by omega) (by simp; omega) ?_; intro v1 w5 hown5 hgrow5 hnil5 hat5; refine Hid.out ?_)
          have hch5 : Hid (PCh d w5 w.heap.size v1 (vs ++ [Value.iface vt vu]) (l ++ [(f z).2])) := (hch4.out.alloc _).grow hgrow5 hat5
          have hp5 : Hid (PC w5 b s (f z).1.a) := (hok'.out.pc.alloc _).grown hgrow5 (ownsS_ne hown4.out hltw)
          have hk5 : Hid (Kc b w w5) := (((hk.out.drewN k3).trans hok'.out.kc).alloc hlt4 _).grown hltw hgrow5 (fun k hk => (hown4.out.lt k hk).1)
          have hown5' : Hid (w5.ownsRow w.heap.size 66 1 v1 (vs ++ [Value.iface vt vu]).length (vs ++ [Value.iface vt vu])) := by
            unfold Hid
            simpa using hown5
          clear hown5 hgrow5 hnil5 hat5 hown4 hch4 hown hch
          obtain ⟨ad5, cap5, hv5⟩ := ownsS_form hown5'.out
          subst hv5
          have hpl : (vs ++ [Value.iface vt vu]).length = vs.length + 1 := by simp
          have Hpl : Hid _ := hpl
          clear hpl
          generalize (vs ++ [Value.iface vt vu]) = vs2 at *
          unfold Hid
          go_wp2_with fail
          refine (take_isBlankInList b s (f z).1.a _ hs hgd1 hp5.out).mono ?_
          rintro e w6 ⟨rfl, hp6, hk6⟩
          have HP6 : Hid (PC w6 b s (rblanks s (f z).1 true).a) := hp6
          have HK6 : Hid (Kc b w5 w6) := hk6
          clear hp6 hk6
          have hy6 : (rblanks s (f z).1 true).a ≤ s.size := scan_le _ _ _ hgd1
          have hy6' : (f z).1.a ≤ (rblanks s (f z).1 true).a := scan_ge _ _ _
          have hfe6 : Hid ((rblanks s (f z).1 true).e = 0) := hfe.out
          by_cases hc : bt s (rblanks s (f z).1 true).a = 44
          · have t1 : ((bt s (rblanks s (f z).1 true).a : Int) != 44) = false := by simp; omega
            have DD : Hid _ := D2.out hfe.out hc
            have Hc : Hid (bt s (rblanks s (f z).1 true).a = 44) := hc
            clear hc
            go_wp2_with fail
            refine (peek_any b s (rblanks s (f z).1 true).a _ hs hy6 HP6.out).mono ?_
            rintro e w7 ⟨rfl, k7, rfl⟩
            have hl7 : (rblanks s (f z).1 true).a < s.size := bt_lt' s _ 44 Hc.out (by decide)
            go_wp2_with fail
            refine (step_any b s (rblanks s (f z).1 true).a _ hs hl7 (HP6.out.drewN k7)).mono ?_
            rintro e w8 ⟨rfl, hp8, hk8⟩
            have HP8 : Hid (PC w8 b s ((rblanks s (f z).1 true).a + 1)) := hp8
            have HK8 : Hid (Kc b w6 w8) := ((Kc.refl _ _).drewN k7).trans hk8
            clear hp8 hk8
            go_wp2_with fail
            refine (take_isBlankInList b s ((rblanks s (f z).1 true).a + 1) _ hs (by omega) HP8.out).mono ?_
            rintro e w9 ⟨rfl, hp9, hk9⟩
            have HP9 : Hid (PC w9 b s (rblanks s ⟨(rblanks s (f z).1 true).a + 1, (f z).1.e, (f z).1.p⟩ true).a) := hp9
            have HK9 : Hid (Kc b w5 w9) := (HK6.out.trans HK8.out).trans hk9
            clear hp9 hk9
            have hsg : (rblanks s (f z).1 true).a + 1 ≤ (rblanks s ⟨(rblanks s (f z).1 true).a + 1, (f z).1.e, (f z).1.p⟩ true).a := scan_ge _ _ _
            obtain ⟨n', hn'⟩ : ∃ n', n = n' + 1 := ⟨n - 1, by omega⟩
            subst hn'
            go_wp2_with fail
            go_roundw
            case rel =>
              refine ⟨n', ⟨(rblanks s (f z).1 true).a + 1, (f z).1.e, (f z).1.p⟩, _, vs2, ?_, hfe.out, HP9, hk5.out.trans HK9.out, ?_, ?_, ?_, ownsS_kc hown5'.out HK9.out.kb hltw, hch5.out.kb HK9.out.kb hltw⟩
              · unfold Hid; rw [hr.out, DD.out]
              · show (rblanks s (f z).1 true).a + 1 ≤ _; omega
              · show s.size + 2 ≤ n' + ((rblanks s (f z).1 true).a + 1); omega
              · show vs2.length ≤ (rblanks s (f z).1 true).a + 1; rw [Hpl.out]; omega
            case measure =>
              rw [HP9.out.atOf, h1.out.atOf]
              omega
          · have t1 : ((bt s (rblanks s (f z).1 true).a : Int) != 44) = true := by simp; omega
            have DD : Hid _ := D3.out hfe.out hc
            clear hc
            have Fin : Hid (rlist s f x = (rmust s (rblanks s (f z).1 true) 93, ⟨108, 0, ⟨#[]⟩, l ++ [(f z).2], []⟩)) := by
              unfold Hid
              rw [R0.out, hr.out, DD.out]
            go_wp2_with fail
            refine (peek_any b s (rblanks s (f z).1 true).a _ hs hy6 HP6.out).mono ?_
            rintro e w7 ⟨rfl, k7, rfl⟩
            go_wp2_with fail
            refine (pass_any b s (rblanks s (f z).1 true) 93 _ hs hfe6.out hy6 (by decide) (HP6.out.drewN k7)).mono ?_
            rintro e w8 (⟨rfl, hok8⟩ | hbad)
            · have hok8' : Hid (POk s b (w6.drewN k7) w8 (rmust s (rblanks s (f z).1 true) 93)) := hok8
              clear hok8
              go_wp2_with fail
              go_ret
              refine .inl ⟨_, rfl, ?_, ?_⟩
              · rw [Fin.out]
                have hkk : Kb b w5 w8 := (HK6.out.kb.drewN k7).trans hok8'.out.kc.kb
                exact (hch5.out.kb hkk hltw).list rfl (ownsS_kc hown5'.out hkk hltw)
              · rw [Fin.out]
                exact ⟨hok8'.out.e, hok8'.out.pc, (hk5.out.trans (HK6.out.drewN k7)).trans hok8'.out.kc⟩
            · have hb := hbad.1
              obtain ⟨q, hq⟩ := hbad.2
              have he' := hq.e
              subst he'
              refine ⟨rfl, .inr ?_⟩
              rw [Fin.out]
              exact ⟨hb, q, hq.trans (hk5.out.kb.trans (HK6.out.kb.drewN k7))⟩
        · have hb := hbad.1
          obtain ⟨q, hq⟩ := hbad.2
          have he' := hq.e
          subst he'
          refine ⟨rfl, .inr ?_⟩
          have e1 : (rlist s f x).1 = rblanks s (f z).1 true := by
            rw [R0.out, hr.out, D1.out hb]
            exact rmust_off _ _ _ hb
          rw [e1]
          exact (PBad.same ⟨hb, q, hq.trans (hk.out.kb.drewN k3)⟩ rfl rfl)
  · rw [M.out] at hb
    exact absurd HE.out hb
end Go.Proofs.YtdebjhdafnpfkabGreatDoor

namespace Go.Proofs.YtdebjhdafnpfkabGreatDoor
open Go.ChangeShapes Go.WideShapes Go.ChangeAt Go.RowKit
set_option linter.unusedVariables false
set_option linter.unusedSimpArgs false
theorem phas_take (ms : List ByteArray) (k : Nat) (a nm : ByteArray) (h : ms[k]? = some a) (h0 : has (ms.take k) nm = false) : has (ms.take (k + 1)) nm = decide (a = nm) := by
  unfold has at *
  rw [List.take_add_one, h, List.any_append, h0]
  simp
theorem has_mem (ms : List ByteArray) (k : Nat) (a nm : ByteArray) (h : ms[k]? = some a) (h0 : a = nm) : has ms nm = true := by
  unfold has
  rw [List.any_eq_true]
  exact ⟨a, List.mem_of_getElem? h, by simpa using h0⟩
set_option maxHeartbeats 2000000 in
theorem has_any (ms : List ByteArray) (vs : List Value) (gv : Value) (base n : Nat) (nm : ByteArray) (w : World) (hl : ms.length = vs.length) (hn : vs.length = n) (hn4 : n ≤ 8000)
    (hi : ∀ v ∈ vs, ∃ t u, v = .iface t u) (ho : w.ownsRow base 195 2 gv n (mem2 ms vs)) :
    Calls Tryz.prog 108 #[gv, .string nm] w fun e w' => e = .returned (.bool (has ms nm)) ∧ Below w.heap.size w w' := by
  obtain ⟨ad, cap, rfl⟩ := ownsS_form ho
  have Ho : Hid (w.ownsRow base 195 2 (.slice ad n cap) n (mem2 ms vs)) := ho
  have Hi : Hid _ := hi
  clear ho hi
  go_enter Tryz.func108, Tryz.ntmps108
  go_wp2_with fail
  go_loopw [9] (fun u9 wr => ∃ k : Nat, k ≤ n ∧ u9 = .int .i64 k ∧ Hid (has (ms.take k) nm = false) ∧ Hid (Below w.heap.size w wr)) (fun u9 _ => n - (intOf u9).toNat)
  case atStart => exact ⟨0, Nat.zero_le _, rfl, rfl, Below.refl _ _⟩
  case round =>
    obtain ⟨k, hk, rfl, ht, hB⟩ := hrel
    by_cases hlt : k < n
    · obtain ⟨a, hma⟩ : ∃ a, ms[k]? = some a := ⟨_, List.getElem?_eq_getElem (by omega)⟩
      obtain ⟨v, hva⟩ : ∃ v, vs[k]? = some v := ⟨_, List.getElem?_eq_getElem (by omega)⟩
      obtain ⟨vt, vu, rfl⟩ := Hi.out v (List.mem_of_getElem? hva)
      have hg2 := mem2_get ms vs k a _ hma hva
      rcases Ho.out.2 with ⟨_, h0⟩ | ⟨g, c, cur, hgv, hg1, hgg, _⟩
      · omega
      simp only [Value.slice.injEq] at hgv
      obtain ⟨rfl, _, rfl⟩ := hgv
      have hgz : g < w.heap.size := (Array.getElem?_eq_some_iff.1 hgg).1
      have c0 : wr.cell? ⟨g, k * 2, none⟩ = some (.string a) := by
        rw [hB.out.cell (p := ⟨g, k * 2, none⟩) hgz, Ho.out.cellAt (k * 2) (by omega), Nat.mul_comm]
        exact hg2.1
      have c1 : wr.cell? ⟨g, k * 2 + 1, none⟩ = some (.iface vt vu) := by
        rw [hB.out.cell (p := ⟨g, k * 2 + 1, none⟩) hgz, Ho.out.cellAt (k * 2 + 1) (by omega), Nat.mul_comm]
        exact hg2.2
      have Hma : Hid _ := hma
      clear hma hva hg2 hgg
      by_cases heq : a = nm
      · have ts : (a.toList == nm.toList) = true := by rw [toList_beq]; simpa using heq
        have Fin : Hid (has ms nm = true) := has_mem ms k a nm Hma.out heq
        clear heq
        go_wp2_with fail
        go_ret
        exact ⟨ret_bool' Fin.out.symm, hB.out.alloc hB.out.size _⟩
      · have ts : (a.toList == nm.toList) = false := by rw [toList_beq]; simpa using heq
        have Fin : Hid (has (ms.take (k + 1)) nm = false) := by
          unfold Hid
          rw [phas_take ms k a nm Hma.out ht.out]
          exact decide_eq_false heq
        clear heq
        go_wp2_with fail
        go_roundw
        case rel => exact ⟨k + 1, by omega, by go_num, Fin, hB.out.alloc hB.out.size _⟩
        case measure => simp [intOf]; omega
    · have e1 : k = n := by omega
      have Fin : Hid (has ms nm = false) := by
        have := ht.out
        rw [List.take_of_length_le (by omega)] at this
        exact this
      clear e1
      go_wp2_with fail
      go_ret
      exact ⟨ret_bool' Fin.out.symm, hB.out⟩
/-- A member's name. -/
def rmName (s : ByteArray) (ms : List ByteArray) (x : St) : St := if has ms (rname s x).2 = true then rno (rname s x).1 6 x.a else (rname s x).1
theorem readMemberName_any (b : Nat) (s : ByteArray) (x : St) (ms : List ByteArray) (vs : List Value) (gv : Value) (base n : Nat) (w : World) (hs : s.size ≤ 4000) (he : x.e = 0) (ha : x.a ≤ s.size) (hb : b < base)
    (hl : ms.length = vs.length) (hn : vs.length = n) (hn4 : n ≤ 8000) (hi : ∀ v ∈ vs, ∃ t u, v = .iface t u) (ho : w.ownsRow base 195 2 gv n (mem2 ms vs)) (h : PC w b s x.a) :
    Calls Tryz.prog 100 #[.pointer (some ⟨b, 0, none⟩), gv] w fun e w' => (e = .returned (.string (rname s x).2) ∧ POk s b w w' (rmName s ms x)) ∨ PBad s b w e w' (rmName s ms x) := by
  obtain ⟨ad, cap, rfl⟩ := ownsS_form ho
  have h' : Hid (PC w b s x.a) := h
  have Ho : Hid (w.ownsRow base 195 2 (.slice ad n cap) n (mem2 ms vs)) := ho
  have Hi : Hid _ := hi
  have HE : Hid (x.e = 0) := he
  clear h ho hi he
  go_enter Tryz.func100, Tryz.ntmps100
  go_wp2_with fail
  refine (readName_any b s x _ hs HE.out ha h'.out).mono ?_
  rintro e w1 (⟨rfl, hok⟩ | ⟨hb1, q, hq⟩)
  · obtain ⟨r1, r2, r3, r4, r5⟩ := rname_ok HE.out ha hok.e
    have hok' : Hid (POk s b w w1 (rname s x).1) := hok
    have R : Hid ((rname s x).1 = ⟨scan letterB s x.a, x.e, x.p⟩ ∧ lineAt s (scan letterB s x.a) = lineAt s x.a) := ⟨r1, r5⟩
    have hlt1 := hok.pc.lt
    clear r1 r2 r3 r4 r5 hok
    cases hh : has ms (rname s x).2
    · have D : Hid (rmName s ms x = (rname s x).1) := by unfold Hid rmName; rw [if_neg (by rw [hh]; simp)]
      go_wp2_with fail
      refine (has_any ms vs _ base n (rname s x).2 _ hl hn hn4 Hi.out (ownsS_kc Ho.out hok'.out.kc.kb hb)).mono ?_
      rintro e w2 ⟨rfl, hB⟩
      have HB : Hid (Below w1.heap.size w1 w2) := hB
      clear hB
      rw [hh]
      go_wp2_with fail
      go_ret
      refine .inl ?_
      rw [D.out]
      exact ⟨rfl, hok'.out.e, hok'.out.pc.below hlt1 HB.out, hok'.out.kc.trans (below_kc HB.out hlt1 (Nat.le_refl _))⟩
    · have D : Hid (rmName s ms x = ⟨(rname s x).1.a, 6, x.a⟩) := by unfold Hid rmName; rw [if_pos hh, rno_on _ _ _ hok'.out.e]
      go_wp2_with fail
      refine (has_any ms vs _ base n (rname s x).2 _ hl hn hn4 Hi.out (ownsS_kc Ho.out hok'.out.kc.kb hb)).mono ?_
      rintro e w2 ⟨rfl, hB⟩
      have HB : Hid (Below w1.heap.size w1 w2) := hB
      clear hB
      rw [hh]
      go_wp2_with fail
      refine (fail_any b s (rname s x).1.a 6 _ (hok'.out.pc.below hlt1 HB.out)).mono ?_
      rintro e w3 ⟨q, hq⟩
      have he' := hq.e
      subst he'
      refine ⟨rfl, .inr ?_⟩
      rw [D.out]
      rw [R.out.1] at hq
      have hq2 := hq
      simp only at hq2
      rw [R.out.2] at hq2
      exact ⟨by simp, q, hq2.trans (hok'.out.kc.kb.trans (below_kc HB.out hlt1 (Nat.le_refl _)).kb)⟩
  · have he' := hq.e
    subst he'
    refine ⟨rfl, .inr ?_⟩
    have D : rmName s ms x = (rname s x).1 := by
      unfold rmName
      split
      · exact rno_off _ _ _ hb1
      · rfl
    rw [D]
    exact ⟨hb1, q, hq⟩
/-- A member's value, from behind its name on. -/
def rmVal (s : ByteArray) (f : St → St × V) (x : St) : St × V := f (rblanks s (rmust s (rblanks s x false) 61) false)
theorem rmVal_off {s : ByteArray} {f : St → St × V} (hf : ∀ z, Stk z (f z).1) {x : St} (h : (rmust s (rblanks s x false) 61).e ≠ 0) : (rmVal s f x).1.e = (rmust s (rblanks s x false) 61).e ∧ (rmVal s f x).1.p = (rmust s (rblanks s x false) 61).p :=
  hf (rblanks s (rmust s (rblanks s x false) 61) false) h
set_option maxHeartbeats 1000000 in
theorem readMemberValue_any (d nest b : Nat) (s : ByteArray) (f : St → St × V) (x : St) (m : Int) (w : World) (hs : s.size ≤ 4000) (he : x.e = 0) (ha : x.a ≤ s.size) (hG : 1 < b)
    (hst : ∀ z, Stk z (f z).1) (hgf : GdF s f) (hV : PValF f d nest b s m) (hm : w.cell? ⟨1, 0, none⟩ = some (.int .i64 m)) (h : PC w b s x.a) :
    Calls Tryz.prog 101 #[.pointer (some ⟨b, 0, none⟩), .int .i64 nest] w fun e w' =>
      (∃ v, e = .returned v ∧ PVal d w.heap.size w'.heap.size w' v (rmVal s f x).2 ∧ POk s b w w' (rblanks s (rmVal s f x).1 false) ∧ x.a ≤ (rblanks s (rmVal s f x).1 false).a ∧ (rblanks s (rmVal s f x).1 false).a ≤ s.size) ∨ PBad s b w e w' (rblanks s (rmVal s f x).1 false) := by
  have h' : Hid (PC w b s x.a) := h
  have HV : Hid (PValF f d nest b s m) := hV
  have Hm : Hid _ := hm
  have HE : Hid (x.e = 0) := he
  have Hst : Hid _ := hst
  have Hgf : Hid (GdF s f) := hgf
  clear h hV hm he hst hgf
  have hz1 : (rblanks s x false).a ≤ s.size := scan_le _ _ _ ha
  have hz2 : x.a ≤ (rblanks s x false).a := scan_ge _ _ _
  have F1 : Hid ((rmust s (rblanks s x false) 61).e ≠ 0 → (rmVal s f x).1.e = (rmust s (rblanks s x false) 61).e ∧ (rmVal s f x).1.p = (rmust s (rblanks s x false) 61).p) := fun hb => rmVal_off Hst.out hb
  have F2 : Hid (rmVal s f x = f (rblanks s (rmust s (rblanks s x false) 61) false)) := rfl
  go_enter Tryz.func101, Tryz.ntmps101
  go_wp2_with fail
  refine (pblanks_any b s x.a _ hs ha h'.out).mono ?_
  rintro e w1 ⟨rfl, hp1, hk1⟩
  have HP1 : Hid (PC w1 b s (rblanks s x false).a) := hp1
  have HK1 : Hid (Kc b w w1) := hk1
  have HE1 : Hid ((rblanks s x false).e = 0) := HE.out
  clear hp1 hk1
  generalize rblanks s x false = x1 at *
  go_wp2_with fail
  refine (pass_any b s x1 61 _ hs HE1.out hz1 (by decide) HP1.out).mono ?_
  rintro e w2 (⟨rfl, hok⟩ | ⟨hb1, q, hq⟩)
  · have hok' : Hid (POk s b w1 w2 (rmust s x1 61)) := hok
    have hgm := gd_must (Gd.refl (x := x1) (s := s) ⟨by omega, fun _ => hz1⟩) 61
    have hx2 : (rmust s x1 61).a ≤ s.size := hgm.1.2 hok.e
    have hx2' := hgm.2
    clear hok hgm
    generalize rmust s x1 61 = x2 at *
    go_wp2_with fail
    refine (pblanks_any b s x2.a _ hs hx2 hok'.out.pc).mono ?_
    rintro e w3 ⟨rfl, hp3, hk3⟩
    have HP3 : Hid (PC w3 b s (rblanks s x2 false).a) := hp3
    have HK3 : Hid (Kc b w w3) := (HK1.out.trans hok'.out.kc).trans hk3
    have HE3 : Hid ((rblanks s x2 false).e = 0) := hok'.out.e
    have hx3 : (rblanks s x2 false).a ≤ s.size := scan_le _ _ _ hx2
    have hx3' : x2.a ≤ (rblanks s x2 false).a := scan_ge _ _ _
    clear hp3 hk3
    generalize rblanks s x2 false = x3 at *
    have hgd := Hgf.out x3 ⟨by omega, fun _ => hx3⟩
    go_wp2_with fail
    refine (HV.out x3 _ HE3.out hx3 (cell_kc (b := b) Hm.out hG HK3.out) HP3.out).mono ?_
    rintro e w4 (⟨v, rfl, hpv, hok4⟩ | ⟨hb4, q, hq⟩)
    · obtain ⟨vt, vu, rfl⟩ := hpv.iface
      have hpv' : Hid (PVal d w3.heap.size w4.heap.size w4 (.iface vt vu) (f x3).2) := hpv
      have hok4' : Hid (POk s b w3 w4 (f x3).1) := hok4
      have hgd1 : (f x3).1.a ≤ s.size := hgd.1.2 hok4.e
      have hgd2 := hgd.2
      clear hpv hok4 hgd
      go_wp2_with fail
      refine (pblanks_any b s (f x3).1.a _ hs hgd1 hok4'.out.pc).mono ?_
      rintro e w5 ⟨rfl, hp5, hk5⟩
      have HP5 : Hid (PC w5 b s (rblanks s (f x3).1 false).a) := hp5
      have HK5 : Hid (Kc b w4 w5) := hk5
      clear hp5 hk5
      have hx5 : (rblanks s (f x3).1 false).a ≤ s.size := scan_le _ _ _ hgd1
      have hx5' : (f x3).1.a ≤ (rblanks s (f x3).1 false).a := scan_ge _ _ _
      go_wp2_with fail
      go_ret
      refine .inl ⟨_, rfl, ?_, ?_, ?_, ?_⟩
      · rw [F2.out]
        have z3 := HK3.out.kb.size
        exact (hpv'.out.frame (fun k k1 k2 => HK5.out.kb.block k k2 (by have := h'.out.lt; omega))).wide z3 HK5.out.kb.size
      · rw [F2.out]
        exact ⟨hok4'.out.e, HP5.out, (HK3.out.trans hok4'.out.kc).trans HK5.out⟩
      · rw [F2.out]; omega
      · rw [F2.out]; exact hx5
    · have he' := hq.e
      subst he'
      refine ⟨rfl, .inr ?_⟩
      rw [F2.out]
      exact PBad.same ⟨hb4, q, hq.trans HK3.out.kb⟩ rfl rfl
  · have he' := hq.e
    subst he'
    refine ⟨rfl, .inr ?_⟩
    exact PBad.same ⟨hb1, q, hq.trans HK1.out.kb⟩ (F1.out hb1).1 (F1.out hb1).2
end Go.Proofs.YtdebjhdafnpfkabGreatDoor
