import Derived.Test.YtdebjhdafnpfkabGreatDoorK10
namespace Go.Proofs.YtdebjhdafnpfkabGreatDoor
open Go.ChangeShapes Go.WideShapes Go.ChangeAt Go.RowKit
set_option linter.unusedVariables false
set_option linter.unusedSimpArgs false
theorem skip_end (p : Nat → Bool) (s : ByteArray) : ∀ n a, s.size ≤ a + n → skip p s n a < s.size → p (bt s (skip p s n a)) = false
  | 0, a, h, hl => by
    have : skip p s 0 a = a := rfl
    omega
  | n + 1, a, h, hl => by
    unfold skip at *
    by_cases hc : a < s.size ∧ p (bt s a) = true
    · rw [if_pos hc] at hl ⊢
      exact skip_end p s n (a + 1) (by omega) hl
    · rw [if_neg hc] at hl ⊢
      cases hp : p (bt s a)
      · rfl
      · exact absurd ⟨hl, hp⟩ hc
theorem scan_idem (p : Nat → Bool) (s : ByteArray) (a : Nat) : scan p s (scan p s a) = scan p s a :=
  scan_stop _ _ _ (fun h => skip_end p s (s.size - a) a (by omega) h)
theorem rblanks_idem (s : ByteArray) (x : St) (l : Bool) : rblanks s (rblanks s x l) l = rblanks s x l := by
  unfold rblanks
  simp only
  rw [scan_idem]
theorem rmember_eq (s : ByteArray) (f : St → St × V) (m : List ByteArray) (x : St) :
    rmember s f m x = (rblanks s (rmVal s f (rmName s m (rblanks s x false))).1 false, (rmVal s f (rmName s m (rblanks s x false))).2, (rname s (rblanks s x false)).2) := rfl
theorem groupLoop_more (s : ByteArray) (f : St → St × V) (n : Nat) (y : St) (l : List V) (m : List ByteArray) (he : y.e = 0) (hb : (rmember s f m y).1.e = 0) (hc : bt s (rmember s f m y).1.a = 44) :
    rgroupLoop s f (n + 1) y l m = rgroupLoop s f n ⟨(rmember s f m y).1.a + 1, (rmember s f m y).1.e, (rmember s f m y).1.p⟩ (l ++ [(rmember s f m y).2.1]) (m ++ [(rmember s f m y).2.2]) := by
  simp only [rgroupLoop]
  rw [if_neg (by simp [he]), ris_pk s _ 44 hb (by decide), if_pos (by simpa using hc)]
theorem groupLoop_last (s : ByteArray) (f : St → St × V) (n : Nat) (y : St) (l : List V) (m : List ByteArray) (he : y.e = 0) (hb : (rmember s f m y).1.e = 0) (hc : bt s (rmember s f m y).1.a ≠ 44) :
    rgroupLoop s f (n + 1) y l m = ((rmember s f m y).1, l ++ [(rmember s f m y).2.1], m ++ [(rmember s f m y).2.2]) := by
  simp only [rgroupLoop]
  rw [if_neg (by simp [he]), ris_pk s _ 44 hb (by decide), if_neg (by simpa using hc)]
theorem groupLoop_bad (s : ByteArray) (f : St → St × V) (n : Nat) (y : St) (l : List V) (m : List ByteArray) (he : y.e = 0) (hb : (rmember s f m y).1.e ≠ 0) :
    rgroupLoop s f (n + 1) y l m = ((rmember s f m y).1, l ++ [(rmember s f m y).2.1], m ++ [(rmember s f m y).2.2]) := by
  simp only [rgroupLoop]
  rw [if_neg (by simp [he]), ris_off s _ 44 hb, if_neg (by simp)]
/-- What a group comes to, behind its pairs. -/
def grp (s : ByteArray) (r : St × List V × List ByteArray) : St × V := (rmust s r.1 125, ⟨103, 0, ⟨#[]⟩, r.2.1, r.2.2⟩)
theorem rgroup_none (s : ByteArray) (f : St → St × V) (x : St) (he : x.e = 0) (h : bt s (rblanks s ⟨x.a + 1, x.e, x.p⟩ false).a = 125) : rgroup s f x = grp s (rblanks s ⟨x.a + 1, x.e, x.p⟩ false, [], []) := by
  simp only [rgroup, grp]
  rw [ris_pk s (rblanks s ⟨x.a + 1, x.e, x.p⟩ false) 125 (by exact he) (by decide), if_pos (by simpa using h), rmust_hit s (rblanks s ⟨x.a + 1, x.e, x.p⟩ false) 125 (by exact he) (by decide) h]
theorem rgroup_some (s : ByteArray) (f : St → St × V) (x : St) (he : x.e = 0) (h : bt s (rblanks s ⟨x.a + 1, x.e, x.p⟩ false).a ≠ 125) : rgroup s f x = grp s (rgroupLoop s f (s.size + 3 - x.a) (rblanks s ⟨x.a + 1, x.e, x.p⟩ false) [] []) := by
  simp only [rgroup, grp]
  rw [ris_pk s (rblanks s ⟨x.a + 1, x.e, x.p⟩ false) 125 (by exact he) (by decide), if_neg (by simpa using h)]
theorem PCh.ifaces {d : Nat} {w : World} {q : Nat} {lv : Value} {vs : List Value} {l : List V} (h : PCh d w q lv vs l) : ∀ v ∈ vs, ∃ t u, v = .iface t u := by
  intro v hv
  obtain ⟨i, hi⟩ := List.getElem?_of_mem hv
  have hl : i < vs.length := (List.getElem?_eq_some_iff.1 hi).1
  obtain ⟨lo, hi', _, _, _, hp⟩ := h.2 i v (l[i]'(by rw [← h.1]; exact hl)) hi (List.getElem?_eq_getElem _)
  exact hp.iface
theorem info_member : (Tryz.prog.info? 195).map (fun i => (i.zero, i.size, i.bytes)) = some (some (.agg #[.string ⟨#[]⟩, .nilIface]), 2, 32) := by kernel_rfl
theorem cell_two_new (w : World) (x y : Value) (t : TypeId) : ∀ j u, [x, y][j]? = some u → (w.alloc (.cells #[x, y] t)).cell? ((⟨w.heap.size, 0, none⟩ : Addr).add j) = some u := by
  intro j u hj
  match j, hj with
  | 0, hj =>
    simp at hj
    subst hj
    simp [Addr.add]
  | 1, hj =>
    simp at hj
    subst hj
    simp [Addr.add]
theorem rmName_a {s : ByteArray} {ms : List ByteArray} {x : St} (he : x.e = 0) (ha : x.a ≤ s.size) (h : (rmName s ms x).e = 0) : x.a < (rmName s ms x).a ∧ (rmName s ms x).a ≤ s.size := by
  unfold rmName at *
  by_cases hh : has ms (rname s x).2 = true
  · rw [if_pos hh] at h
    by_cases h0 : (rname s x).1.e = 0
    · rw [rno_on _ _ _ h0] at h; cases h
    · rw [rno_off _ _ _ h0] at h; exact absurd h h0
  · rw [if_neg hh] at h ⊢
    obtain ⟨r1, r2, r3, _, _⟩ := rname_ok he ha h
    rw [r1]
    exact ⟨r2, r3⟩
theorem rmVal_stk {s : ByteArray} {f : St → St × V} (hf : ∀ z, Stk z (f z).1) (x : St) : Stk x (rmVal s f x).1 :=
  (((stk_blanks s x false).trans (stk_must s _ 61)).trans (stk_blanks s _ false)).trans (hf _)
set_option maxRecDepth 100000 in
set_option maxHeartbeats 4000000 in
theorem readGroup_any (d nest b : Nat) (s : ByteArray) (f : St → St × V) (x : St) (m : Int) (w : World) (hs : s.size ≤ 4000) (he : x.e = 0) (hq : bt s x.a = 123) (hn6 : nest ≤ 6) (hG : 1 < b)
    (hst : ∀ z, Stk z (f z).1) (hgf : GdF s f) (hV : PValF f d nest b s m) (hm : w.cell? ⟨1, 0, none⟩ = some (.int .i64 m)) (h : PC w b s x.a) :
    Calls Tryz.prog 89 #[.pointer (some ⟨b, 0, none⟩), .int .i64 nest] w fun e w' =>
      (∃ gv, e = .returned gv ∧ PVal (d + 1) w.heap.size w'.heap.size w' (.iface 180 gv) (rgroup s f x).2 ∧ POk s b w w' (rgroup s f x).1) ∨ PBad s b w e w' (rgroup s f x).1 := by
  obtain ⟨i0, hi, hz0, hz1, hz2⟩ := info_parts info_member
  have ha := bt_lt' s x.a 123 hq (by decide)
  have h' : Hid (PC w b s x.a) := h
  have hltw := h.lt
  have HV : Hid (PValF f d nest b s m) := hV
  have Hm : Hid _ := hm
  have Hgf : Hid (GdF s f) := hgf
  have Hst : Hid (∀ z, Stk z (f z).1) := hst
  have M : Hid (rmust s x 123 = ⟨x.a + 1, x.e, x.p⟩) := rmust_hit s x 123 he (by decide) hq
  have HE : Hid (x.e = 0) := he
  have G0 : Hid (bt s (rblanks s ⟨x.a + 1, x.e, x.p⟩ false).a = 125 → rgroup s f x = grp s (rblanks s ⟨x.a + 1, x.e, x.p⟩ false, [], [])) := rgroup_none s f x he
  have G1 : Hid (bt s (rblanks s ⟨x.a + 1, x.e, x.p⟩ false).a ≠ 125 → rgroup s f x = grp s (rgroupLoop s f (s.size + 3 - x.a) (rblanks s ⟨x.a + 1, x.e, x.p⟩ false) [] [])) := rgroup_some s f x he
  clear he hq h hV hm hgf hst
  go_enter Tryz.func89, Tryz.ntmps89
  go_wp2_with fail
  refine (pass_any b s x 123 _ hs HE.out (by omega) (by decide) h'.out).mono ?_
  rintro e w1 (⟨rfl, hok⟩ | ⟨hb, _⟩)
  · rw [M.out] at hok
    have hok' : Hid (POk s b w w1 ⟨x.a + 1, x.e, x.p⟩) := hok
    clear hok
    go_wp2_with fail
    refine (pblanks_any b s (x.a + 1) _ hs (by omega) hok'.out.pc).mono ?_
    rintro e w2 ⟨rfl, hp2, hk2⟩
    have HP2 : Hid (PC w2 b s (rblanks s ⟨x.a + 1, x.e, x.p⟩ false).a) := hp2
    have HK2 : Hid (Kc b w w2) := hok'.out.kc.trans hk2
    have hx1 : (rblanks s ⟨x.a + 1, x.e, x.p⟩ false).a ≤ s.size := scan_le _ _ _ (by show x.a + 1 ≤ _; omega)
    have hx1' : x.a + 1 ≤ (rblanks s ⟨x.a + 1, x.e, x.p⟩ false).a := scan_ge _ _ _
    have HE1 : Hid ((rblanks s ⟨x.a + 1, x.e, x.p⟩ false).e = 0) := HE.out
    have Hid1 : Hid (rblanks s (rblanks s ⟨x.a + 1, x.e, x.p⟩ false) false = rblanks s ⟨x.a + 1, x.e, x.p⟩ false) := rblanks_idem _ _ _
    clear hp2 hk2 hok' h'
    generalize rblanks s ⟨x.a + 1, x.e, x.p⟩ false = x1 at *
    go_wp2_with fail
    refine (peek_any b s x1.a _ hs hx1 HP2.out).mono ?_
    rintro e w3 ⟨rfl, k3, rfl⟩
    have HP3 : Hid (PC (w2.drewN k3) b s x1.a) := HP2.out.drewN k3
    have HK3 : Hid (Kc b w (w2.drewN k3)) := HK2.out.drewN k3
    clear HP2 HK2
    generalize w2.drewN k3 = w3 at *
    go_wp2_with fail
    go_loopw [5, 6] (fun u5 u6 wr => ∃ (z : St) (l : List V) (ms : List ByteArray) (vs : List Value), Hid (Kc b w wr) ∧ z.a ≤ s.size ∧ Hid (z.e = 0) ∧ Hid (PC wr b s z.a) ∧ vs.length ≤ z.a ∧ ms.length = vs.length ∧
        Hid (wr.ownsRow w.heap.size 195 2 u5 vs.length (mem2 ms vs)) ∧ Hid (PCh d wr w.heap.size u5 vs l) ∧
        ((u6 = .bool true ∧ ∃ (n : Nat) (y : St), Hid (rgroup s f x = grp s (rgroupLoop s f (n + 1) y l ms)) ∧ Hid (rblanks s y false = z) ∧ s.size + 2 ≤ n + z.a) ∨
         (u6 = .bool false ∧ Hid (rgroup s f x = grp s (z, l, ms))))) (fun _ _ wr => s.size + 1 - atOf wr b)
    case atStart =>
      refine ⟨x1, [], [], [], HK3, hx1, HE1, HP3, Nat.zero_le _, rfl, World.ownsRow_nil _ _ _ _, PCh.nil _ _ _ _, ?_⟩
      by_cases h125 : bt s x1.a = 125
      · right
        exact ⟨by congr 1; simp; omega, G0.out h125⟩
      · left
        refine ⟨by congr 1; simp; omega, s.size + 2 - x.a, x1, ?_, Hid1, by omega⟩
        unfold Hid
        rw [show s.size + 2 - x.a + 1 = s.size + 3 - x.a by omega]
        exact G1.out h125
    case round =>
      clear M HP3 HK3 G0 G1 HE1 Hid1 hx1 hx1'
      obtain ⟨z, l, ms, vs, hk, hza, hze, h1, hvs, hml, hown, hch, hcase⟩ := hrel
      obtain ⟨ad0, cap0, hv0⟩ := ownsS_form hown.out
      subst hv0
      have hifs : Hid (∀ v ∈ vs, ∃ t u, v = .iface t u) := hch.out.ifaces
      rcases hcase with ⟨rfl, n, y, hr, hyz, hn⟩ | ⟨rfl, hfin⟩
      · have hye : Hid (y.e = 0) := by
          unfold Hid
          have := hze.out
          rw [← hyz.out] at this
          exact this
        have E0 : Hid (rmember s f ms y = (rblanks s (rmVal s f (rmName s ms z)).1 false, (rmVal s f (rmName s ms z)).2, (rname s z).2)) := by
          unfold Hid
          rw [rmember_eq, hyz.out]
        have hyz' := hyz.out
        have D1 : Hid ((rmember s f ms y).1.e ≠ 0 → (rgroup s f x).1 = (rmember s f ms y).1) := fun hb => by
          rw [hr.out, groupLoop_bad s f n y l ms hye.out hb]
          exact rmust_off _ _ _ hb
        have D2 : Hid ((rmember s f ms y).1.e = 0 → bt s (rmember s f ms y).1.a = 44 → rgroup s f x = grp s (rgroupLoop s f n ⟨(rmember s f ms y).1.a + 1, (rmember s f ms y).1.e, (rmember s f ms y).1.p⟩ (l ++ [(rmember s f ms y).2.1]) (ms ++ [(rmember s f ms y).2.2]))) := fun hb hc => by
          rw [hr.out, groupLoop_more s f n y l ms hye.out hb hc]
        have D3 : Hid ((rmember s f ms y).1.e = 0 → bt s (rmember s f ms y).1.a ≠ 44 → rgroup s f x = grp s ((rmember s f ms y).1, l ++ [(rmember s f ms y).2.1], ms ++ [(rmember s f ms y).2.2])) := fun hb hc => by
          rw [hr.out, groupLoop_last s f n y l ms hye.out hb hc]
        rw [E0.out] at D1 D2 D3
        clear hyz' E0 hr hyz hye
        go_wp2_with fail
        refine (readMemberName_any b s z ms vs _ w.heap.size vs.length _ hs hze.out hza hltw hml rfl (by omega) hifs.out hown.out h1.out).mono ?_
        rintro e w4 (⟨rfl, hok⟩ | ⟨hb1, q, hq⟩)
        · obtain ⟨n1, n2⟩ := rmName_a hze.out hza hok.e
          have hok' : Hid (POk s b wr w4 (rmName s ms z)) := hok
          clear hok
          go_wp2_with fail
          refine (readMemberValue_any d nest b s f (rmName s ms z) m _ hs hok'.out.e n2 hG Hst.out Hgf.out HV.out (cell_kc (b := b) Hm.out hG (hk.out.trans hok'.out.kc)) hok'.out.pc).mono ?_
          rintro e w5 (⟨v, rfl, hpv, hok5, hg1, hg2⟩ | ⟨hb1, q, hq⟩)
          · obtain ⟨vt, vu, rfl⟩ := hpv.iface
            have hpv' : Hid (PVal d w4.heap.size w5.heap.size w5 (.iface vt vu) (rmVal s f (rmName s ms z)).2) := hpv
            have hok5' : Hid (POk s b w4 w5 (rblanks s (rmVal s f (rmName s ms z)).1 false)) := hok5
            have hlt5 := hok5.pc.lt
            clear hpv hok5
            generalize hq3 : rblanks s (rmVal s f (rmName s ms z)).1 false = z5 at *
            clear hq3
            generalize (rmVal s f (rmName s ms z)).2 = vv at *
            generalize (rname s z).2 = nm at *
            generalize hq4 : rmName s ms z = z4 at *
            clear hq4
            have hkr : Hid (Kc b wr w5) := hok'.out.kc.trans hok5'.out.kc
            have hzr := hk.out.kb.size
            have hz4 := hok'.out.kc.kb.size
            have hz5 := hok5'.out.kc.kb.size
            have hown5 : Hid (w5.ownsRow w.heap.size 195 2 (.slice ad0 vs.length cap0) vs.length (mem2 ms vs)) := ownsS_kc hown.out hkr.out.kb hltw
            have hch5 : Hid (PCh d w5 w.heap.size (.slice ad0 vs.length cap0) (vs ++ [Value.iface vt vu]) (l ++ [vv])) :=
              (hch.out.kb hkr.out.kb hltw).snoc (Nat.le_trans hzr hz4) (Nat.le_refl _) (fun k e => Nat.lt_of_lt_of_le (hown.out.lt k e).2 hz4) hpv'.out
            go_wp2_with (at_builtin; refine wpList_append_own_at _ rfl (.tmp 25) (.tmp 31) 180 rfl w.heap.size 195 i0 (.agg #[.string ⟨#[]⟩, .nilIface]) 2 32 Tryz.underlying180 hi hz0 hz1 hz2 rfl (by decide) _ _ _ rfl (hown5.out.alloc _) ⟨w5.heap.size, 0, none⟩ 1 1 [.string nm, .iface vt vu] rfl rfl (cell_two_new _ _ _ _) (by intro u hu; simp at hu; rcases hu with rfl | rfl <;> rfl) (by unfold maxLen; omega) (by omega) (by simp; omega) ?_; intro v1 w6 hown6 hgrow6 hnil6 hat6; refine Hid.out ?_)
            have hch6 : Hid (PCh d w6 w.heap.size v1 (vs ++ [Value.iface vt vu]) (l ++ [vv])) := (hch5.out.alloc _).grow hgrow6 hat6
            have hp6 : Hid (PC w6 b s z5.a) := (hok5'.out.pc.alloc _).grown hgrow6 (ownsS_ne hown5.out hltw)
            have hk6 : Hid (Kc b w w6) := ((hk.out.trans hkr.out).alloc hlt5 _).grown hltw hgrow6 (fun k hk => (hown5.out.lt k hk).1)
            have hown6' : Hid (w6.ownsRow w.heap.size 195 2 v1 (vs ++ [Value.iface vt vu]).length (mem2 (ms ++ [nm]) (vs ++ [Value.iface vt vu]))) := by
              unfold Hid
              rw [mem2_snoc nm _ ms vs hml]
              simpa using hown6
            clear hown6 hgrow6 hnil6 hat6 hown5 hch5 hown hch hifs
            obtain ⟨ad6, cap6, hv6⟩ := ownsS_form hown6'.out
            subst hv6
            have hpl : (vs ++ [Value.iface vt vu]).length = vs.length + 1 := by simp
            have Hpl : Hid _ := hpl
            have hml2 : (ms ++ [nm]).length = (vs ++ [Value.iface vt vu]).length := by simp [hml]
            have Hml2 : Hid _ := hml2
            clear hpl hml2
            generalize (vs ++ [Value.iface vt vu]) = vs2 at *
            generalize (ms ++ [nm]) = ms2 at *
            generalize (l ++ [vv]) = l2 at *
            unfold Hid
            by_cases hc : bt s z5.a = 44
            · have t1 : ((bt s z5.a : Int) == 44) = true := by simp; omega
              have DD : Hid _ := D2.out hok5'.out.e hc
              have Hc : Hid (bt s z5.a = 44) := hc
              clear hc
              have hl7 : z5.a < s.size := bt_lt' s _ 44 Hc.out (by decide)
              go_wp2_with fail
              refine (peek_any b s z5.a _ hs hg2 hp6.out).mono ?_
              rintro e w7 ⟨rfl, k7, rfl⟩
              go_wp2_with fail
              refine (step_any b s z5.a _ hs hl7 (hp6.out.drewN k7)).mono ?_
              rintro e w8 ⟨rfl, hp8, hk8⟩
              have HP8 : Hid (PC w8 b s (z5.a + 1)) := hp8
              have HK8 : Hid (Kc b w6 w8) := ((Kc.refl _ _).drewN k7).trans hk8
              clear hp8 hk8
              go_wp2_with fail
              refine (pblanks_any b s (z5.a + 1) _ hs (by omega) HP8.out).mono ?_
              rintro e w9 ⟨rfl, hp9, hk9⟩
              have HP9 : Hid (PC w9 b s (rblanks s ⟨z5.a + 1, z5.e, z5.p⟩ false).a) := hp9
              have HK9 : Hid (Kc b w6 w9) := HK8.out.trans hk9
              clear hp9 hk9
              have hsg : z5.a + 1 ≤ (rblanks s ⟨z5.a + 1, z5.e, z5.p⟩ false).a := scan_ge _ _ _
              have hsl : (rblanks s ⟨z5.a + 1, z5.e, z5.p⟩ false).a ≤ s.size := scan_le _ _ _ (by show z5.a + 1 ≤ _; omega)
              obtain ⟨n', hn'⟩ : ∃ n', n = n' + 1 := ⟨n - 1, by omega⟩
              subst hn'
              go_wp2_with fail
              go_roundw
              case rel =>
                refine ⟨rblanks s ⟨z5.a + 1, z5.e, z5.p⟩ false, l2, ms2, vs2, hk6.out.trans HK9.out, hsl, hok5'.out.e, HP9, by rw [Hpl.out]; omega, Hml2.out, ownsS_kc hown6'.out HK9.out.kb hltw, hch6.out.kb HK9.out.kb hltw, .inl ⟨rfl, n', ⟨z5.a + 1, z5.e, z5.p⟩, DD, rfl, by omega⟩⟩
              case measure =>
                rw [HP9.out.atOf, h1.out.atOf]
                omega
            · have t1 : ((bt s z5.a : Int) == 44) = false := by simp; omega
              have DD : Hid _ := D3.out hok5'.out.e hc
              clear hc
              go_wp2_with fail
              refine (peek_any b s z5.a _ hs hg2 hp6.out).mono ?_
              rintro e w7 ⟨rfl, k7, rfl⟩
              go_wp2_with fail
              go_roundw
              case rel =>
                refine ⟨z5, l2, ms2, vs2, hk6.out.drewN k7, hg2, hok5'.out.e, hp6.out.drewN k7, by rw [Hpl.out]; omega, Hml2.out, ownsS_kc hown6'.out ((Kb.refl b w6).drewN k7) hltw, hch6.out.kb ((Kb.refl b w6).drewN k7) hltw, .inr ⟨rfl, DD⟩⟩
              case measure =>
                rw [(hp6.out.drewN k7).atOf, h1.out.atOf]
                omega
          · have he' := hq.e
            subst he'
            refine ⟨rfl, .inr ?_⟩
            rw [D1.out hb1]
            exact ⟨hb1, q, hq.trans (hk.out.kb.trans hok'.out.kc.kb)⟩
        · have he' := hq.e
          subst he'
          refine ⟨rfl, .inr ?_⟩
          have hsk := rmVal_stk (s := s) Hst.out (rmName s ms z) hb1
          have hb2 : (rblanks s (rmVal s f (rmName s ms z)).1 false).e ≠ 0 := by
            show (rmVal s f (rmName s ms z)).1.e ≠ 0
            rw [hsk.1]
            exact hb1
          rw [D1.out hb2]
          exact PBad.same ⟨hb1, q, hq.trans hk.out.kb⟩ hsk.1 hsk.2
      · go_wp2_with fail
        refine (pass_any b s z 125 _ hs hze.out hza (by decide) h1.out).mono ?_
        rintro e w4 (⟨rfl, hok⟩ | ⟨hb1, q, hq⟩)
        · have hok' : Hid (POk s b wr w4 (rmust s z 125)) := hok
          clear hok
          go_wp2_with fail
          go_ret
          refine .inl ⟨_, rfl, ?_, ?_⟩
          · rw [hfin.out]
            exact (hch.out.kb hok'.out.kc.kb hltw).group rfl hml (ownsS_kc hown.out hok'.out.kc.kb hltw)
          · rw [hfin.out]
            exact ⟨hok'.out.e, hok'.out.pc, hk.out.trans hok'.out.kc⟩
        · have he' := hq.e
          subst he'
          refine ⟨rfl, .inr ?_⟩
          rw [hfin.out]
          exact ⟨hb1, q, hq.trans hk.out.kb⟩
  · rw [M.out] at hb
    exact absurd HE.out hb
end Go.Proofs.YtdebjhdafnpfkabGreatDoor

namespace Go.Proofs.YtdebjhdafnpfkabGreatDoor
open Go.ChangeShapes Go.WideShapes Go.ChangeAt Go.RowKit
set_option linter.unusedVariables false
set_option linter.unusedSimpArgs false
theorem stk_val (s : ByteArray) : ∀ (d nest : Nat) (x : St), Stk x (rval s d nest x).1
  | 0, nest, x => Stk.refl x
  | d + 1, nest, x => fun he => by
    simp only [rval]
    rw [if_pos (.inl he)]
    exact stk_no x 3 x.a he
theorem rword_end (s : ByteArray) (x : St) (he : x.e = 0) (ha : s.size ≤ x.a) : (rword s x).1 = ⟨x.a, 3, x.a⟩ := by
  have h0 := bt_end s x.a ha
  have e1 : ris s x 45 = false := by rw [ris_pk s x 45 he (by decide), h0]; rfl
  have e2 : ris s x 43 = false := by rw [ris_pk s x 43 he (by decide), h0]; rfl
  have e3 : scan letterB s x.a = x.a := scan_stop _ _ _ (fun h => by omega)
  have e4 : s.extract x.a x.a = ⟨#[]⟩ := ext_self s x.a
  unfold rword
  rw [e1, e2]
  simp only [Bool.false_eq_true, or_self, if_false]
  rw [rwordAt_num _ _ _ _ _ (by rw [e3, e4]; rintro ⟨_, _, q | q⟩ <;> exact absurd (congrArg ByteArray.size q) (by decide)), e3, e4]
  rw [if_pos (by decide), rno_on _ _ _ (by exact he)]
theorem rval_succ (s : ByteArray) (d nest : Nat) (x : St) (he : x.e = 0) : rval s (d + 1) nest x =
    if s.size ≤ x.a then (⟨x.a, 3, x.a⟩, V0)
    else if (bt s x.a = 91 ∨ bt s x.a = 123) ∧ 6 ≤ nest then (⟨x.a, 5, x.a⟩, V0)
    else if bt s x.a = 34 then rtext s x
    else if bt s x.a = 91 then rlist s (rval s d (nest + 1)) x
    else if bt s x.a = 123 then rgroup s (rval s d (nest + 1)) x
    else rword s x := by
  simp only [rval, he, ne_eq, not_true_eq_false, false_or]
  rw [rno_on _ _ _ he, rno_on _ _ _ he]
set_option maxHeartbeats 2000000 in
theorem readValue_step (d nest b : Nat) (s : ByteArray) (m : Int) (hs : s.size ≤ 4000) (hn : nest ≤ 6) (hG : 1 < b) (hV : nest < 6 → PValC d (nest + 1) b s m) : PValC (d + 1) nest b s m := by
  intro x w he ha hm h
  have R : Hid _ := rval_succ s d nest x he
  have h' : Hid (PC w b s x.a) := h
  have Hm : Hid _ := hm
  have HE : Hid (x.e = 0) := he
  have HV : Hid (nest < 6 → PValC d (nest + 1) b s m) := hV
  clear h hm he hV
  by_cases h34 : bt s x.a = 34
  · have t1 : ((bt s x.a : Int) == 34) = true := by simp; omega
    have hl := bt_lt' s x.a 34 h34 (by decide)
    have D : Hid (rval s (d + 1) nest x = rtext s x) := by
      unfold Hid
      rw [R.out, if_neg (by omega), if_neg (by omega), if_pos h34]
    have H34 : Hid (bt s x.a = 34) := h34
    clear h34 R
    go_enter Tryz.func76, Tryz.ntmps76
    go_wp2_with fail
    refine (peek_any b s x.a _ hs ha h'.out).mono ?_
    rintro e w1 ⟨rfl, k1, rfl⟩
    go_wp2_with fail
    refine (readText_any b s x _ hs HE.out H34.out (h'.out.drewN k1)).mono ?_
    rintro e w2 (⟨rfl, hok⟩ | ⟨hb1, q, hq⟩)
    · have hok' : Hid (POk s b (w.drewN k1) w2 (rtext s x).1) := hok
      clear hok
      go_wp2_with fail
      go_ret
      refine .inl ⟨_, rfl, ?_, ?_⟩
      · rw [D.out]; exact leaf_text _ _ _ _ _
      · rw [D.out]; exact ⟨hok'.out.e, hok'.out.pc, ((Kc.refl _ _).drewN k1).trans hok'.out.kc⟩
    · have he' := hq.e
      subst he'
      refine ⟨rfl, .inr ?_⟩
      rw [D.out]
      exact ⟨hb1, q, hq.trans ((Kb.refl _ _).drewN k1)⟩
  · have t1 : ((bt s x.a : Int) == 34) = false := by simp; omega
    by_cases h91 : bt s x.a = 91
    · have t2 : ((bt s x.a : Int) == 91) = true := by simp; omega
      have hl := bt_lt' s x.a 91 h91 (by decide)
      have D1 : Hid (6 ≤ nest → rval s (d + 1) nest x = (⟨x.a, 5, x.a⟩, V0)) := fun h6 => by
        rw [R.out, if_neg (by omega), if_pos ⟨.inl h91, h6⟩]
      have D2 : Hid (nest < 6 → rval s (d + 1) nest x = rlist s (rval s d (nest + 1)) x) := fun h6 => by
        rw [R.out, if_neg (by omega), if_neg (by omega), if_neg h34, if_pos h91]
      have H91 : Hid (bt s x.a = 91) := h91
      clear h34 R h91
      go_enter Tryz.func76, Tryz.ntmps76
      go_wp2_with fail
      refine (peek_any b s x.a _ hs ha h'.out).mono ?_
      rintro e w1 ⟨rfl, k1, rfl⟩
      go_wp2_with fail
      refine (checkNest_any b s x.a nest _ hn (h'.out.drewN k1)).mono ?_
      rintro e w2 (⟨h6, rfl, hw2⟩ | ⟨h6, q, hq⟩)
      · rw [hw2]
        clear hw2
        go_wp2_with fail
        refine (readList_any d (nest + 1) b s x m (w.drewN k1) hs HE.out H91.out (by omega) hG (HV.out h6) Hm.out (h'.out.drewN k1)).mono ?_
        rintro e w3 (⟨lv, rfl, hpv, hok⟩ | ⟨hb1, q, hq⟩)
        · have hpv' : Hid (PVal (d + 1) w.heap.size w3.heap.size w3 (.iface 164 lv) (rlist s (rval s d (nest + 1)) x).2) := hpv
          have hok' : Hid (POk s b (w.drewN k1) w3 (rlist s (rval s d (nest + 1)) x).1) := hok
          clear hpv hok
          have DD : Hid _ := D2.out h6
          go_wp2_with fail
          go_ret
          refine .inl ⟨_, rfl, ?_, ?_⟩
          · rw [DD.out]; exact hpv'.out
          · rw [DD.out]; exact ⟨hok'.out.e, hok'.out.pc, ((Kc.refl _ _).drewN k1).trans hok'.out.kc⟩
        · have he' := hq.e
          subst he'
          refine ⟨rfl, .inr ?_⟩
          rw [D2.out h6]
          exact ⟨hb1, q, hq.trans ((Kb.refl _ _).drewN k1)⟩
      · have he' := hq.e
        subst he'
        refine ⟨rfl, .inr ?_⟩
        rw [D1.out h6]
        exact ⟨by simp, q, hq.trans ((Kb.refl _ _).drewN k1)⟩
    · have t2 : ((bt s x.a : Int) == 91) = false := by simp; omega
      by_cases h123 : bt s x.a = 123
      · have t3 : ((bt s x.a : Int) == 123) = true := by simp; omega
        have hl := bt_lt' s x.a 123 h123 (by decide)
        have D1 : Hid (6 ≤ nest → rval s (d + 1) nest x = (⟨x.a, 5, x.a⟩, V0)) := fun h6 => by
          rw [R.out, if_neg (by omega), if_pos ⟨.inr h123, h6⟩]
        have D2 : Hid (nest < 6 → rval s (d + 1) nest x = rgroup s (rval s d (nest + 1)) x) := fun h6 => by
          rw [R.out, if_neg (by omega), if_neg (by omega), if_neg h34, if_neg h91, if_pos h123]
        have H123 : Hid (bt s x.a = 123) := h123
        clear h34 R h91 h123
        go_enter Tryz.func76, Tryz.ntmps76
        go_wp2_with fail
        refine (peek_any b s x.a _ hs ha h'.out).mono ?_
        rintro e w1 ⟨rfl, k1, rfl⟩
        go_wp2_with fail
        refine (checkNest_any b s x.a nest _ hn (h'.out.drewN k1)).mono ?_
        rintro e w2 (⟨h6, rfl, hw2⟩ | ⟨h6, q, hq⟩)
        · rw [hw2]
          clear hw2
          go_wp2_with fail
          refine (readGroup_any d (nest + 1) b s (rval s d (nest + 1)) x m (w.drewN k1) hs HE.out H123.out (by omega) hG (stk_val s d (nest + 1)) (gd_val d (nest + 1)) (HV.out h6) Hm.out (h'.out.drewN k1)).mono ?_
          rintro e w3 (⟨lv, rfl, hpv, hok⟩ | ⟨hb1, q, hq⟩)
          · have hpv' : Hid (PVal (d + 1) w.heap.size w3.heap.size w3 (.iface 180 lv) (rgroup s (rval s d (nest + 1)) x).2) := hpv
            have hok' : Hid (POk s b (w.drewN k1) w3 (rgroup s (rval s d (nest + 1)) x).1) := hok
            clear hpv hok
            have DD : Hid _ := D2.out h6
            go_wp2_with fail
            go_ret
            refine .inl ⟨_, rfl, ?_, ?_⟩
            · rw [DD.out]; exact hpv'.out
            · rw [DD.out]; exact ⟨hok'.out.e, hok'.out.pc, ((Kc.refl _ _).drewN k1).trans hok'.out.kc⟩
          · have he' := hq.e
            subst he'
            refine ⟨rfl, .inr ?_⟩
            rw [D2.out h6]
            exact ⟨hb1, q, hq.trans ((Kb.refl _ _).drewN k1)⟩
        · have he' := hq.e
          subst he'
          refine ⟨rfl, .inr ?_⟩
          rw [D1.out h6]
          exact ⟨by simp, q, hq.trans ((Kb.refl _ _).drewN k1)⟩
      · have t3 : ((bt s x.a : Int) == 123) = false := by simp; omega
        have D1 : Hid ((rval s (d + 1) nest x).1 = (rword s x).1 ∧ (x.a < s.size → rval s (d + 1) nest x = rword s x)) := by
          have e1 : ¬ ((bt s x.a = 91 ∨ bt s x.a = 123) ∧ 6 ≤ nest) := by omega
          refine ⟨?_, fun hl => by rw [R.out, if_neg (by omega), if_neg e1, if_neg h34, if_neg h91, if_neg h123]⟩
          by_cases hl : s.size ≤ x.a
          · rw [R.out, if_pos hl, rword_end s x HE.out hl]
          · rw [R.out, if_neg hl, if_neg e1, if_neg h34, if_neg h91, if_neg h123]
        clear h34 R h91 h123
        go_enter Tryz.func76, Tryz.ntmps76
        go_wp2_with fail
        refine (peek_any b s x.a _ hs ha h'.out).mono ?_
        rintro e w1 ⟨rfl, k1, rfl⟩
        go_wp2_with fail
        refine (readWord_any b s x (w.drewN k1) m hs HE.out ha hG Hm.out (h'.out.drewN k1)).mono ?_
        rintro e w2 (⟨v, rfl, hpv, hok⟩ | ⟨hb1, q, hq⟩)
        · have hl : x.a < s.size := by
            rcases Nat.lt_or_ge x.a s.size with hl | hl
            · exact hl
            · have := hok.e
              rw [rword_end s x HE.out hl] at this
              cases this
          obtain ⟨vt, vu, rfl⟩ := (hpv 0 0 0 w2).iface
          have hpv' : Hid (PLeaf (.iface vt vu) (rword s x).2) := hpv
          have hok' : Hid (POk s b (w.drewN k1) w2 (rword s x).1) := hok
          clear hpv hok
          have DD : Hid _ := D1.out.2 hl
          go_wp2_with fail
          go_ret
          refine .inl ⟨_, rfl, ?_, ?_⟩
          · rw [DD.out]; exact hpv'.out _ _ _ _
          · rw [DD.out]; exact ⟨hok'.out.e, hok'.out.pc, ((Kc.refl _ _).drewN k1).trans hok'.out.kc⟩
        · have he' := hq.e
          subst he'
          refine ⟨rfl, .inr ?_⟩
          rw [D1.out.1]
          exact ⟨hb1, q, hq.trans ((Kb.refl _ _).drewN k1)⟩
theorem pvalue_all (b : Nat) (s : ByteArray) (m : Int) (hs : s.size ≤ 4000) (hG : 1 < b) : ∀ k, k ≤ 6 → PValC (k + 1) (6 - k) b s m
  | 0, _ => readValue_step 0 6 b s m hs (Nat.le_refl _) hG (fun h => absurd h (by omega))
  | k + 1, hk => readValue_step (k + 1) (6 - (k + 1)) b s m hs (by omega) hG (fun _ => by
      have := pvalue_all b s m hs hG k (by omega)
      rw [show 6 - (k + 1) + 1 = 6 - k by omega]
      exact this)
theorem pvalue_any (b : Nat) (s : ByteArray) (m : Int) (hs : s.size ≤ 4000) (hG : 1 < b) : PValC 7 0 b s m := pvalue_all b s m hs hG 6 (Nat.le_refl _)
end Go.Proofs.YtdebjhdafnpfkabGreatDoor
