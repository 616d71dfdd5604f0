import Derived.Test.YtdebjhdafnpfkabGreatDoorK38
import Derived.Test.YtdebjhdafnpfkabGreatDoorK36
import Derived.Test.YtdebjhdafnpfkabGreatDoorK37
namespace Go.Proofs.YtdebjhdafnpfkabGreatDoor
set_option linter.unusedVariables false
set_option linter.unusedSimpArgs false
def NoNl (s : ByteArray) : Prop := ∀ c ∈ bl s, c ≠ 10
theorem NoNl.app {s t : ByteArray} (h1 : NoNl s) (h2 : NoNl t) : NoNl (s ++ t) := fun c hc => by
  rw [bl_app, List.mem_append] at hc
  exact hc.elim (h1 c) (h2 c)
theorem nonl_lit (s : ByteArray) (h : (bl s).all (fun c => decide (c ≠ 10)) = true) : NoNl s := fun c hc => by simpa using List.all_eq_true.1 h c hc
theorem nonl_dig (n : Nat) (hn : n < 10000000000000000000) : NoNl (dgtB n) := fun c hc => by
  have := dig_all n hn c hc
  unfold digC at this
  omega
theorem nonl_name {n : ByteArray} (h : NmOk n) : NoNl n := fun c hc => (letter_ne (h.let_ c hc)).1
/-- What stands in a line and begins no remark. -/
structure Qn (s : ByteArray) : Prop where
  q : Quiet (bl s)
  n : NoNl s
theorem Qn.app {s t : ByteArray} (h1 : Qn s) (h2 : Qn t) : Qn (s ++ t) := ⟨by rw [bl_app]; exact h1.q.app h2.q, h1.n.app h2.n⟩
theorem qn_lit (s : ByteArray) (h : (bl s).all (fun c => decide (c ≠ 10 ∧ c ≠ 34 ∧ c ≠ 35)) = true) : Qn s := by
  have h' : ∀ c ∈ bl s, c ≠ 10 ∧ c ≠ 34 ∧ c ≠ 35 := fun c hc => by simpa using List.all_eq_true.1 h c hc
  exact ⟨quiet_bytes (fun c hc => (h' c hc).2), fun c hc => (h' c hc).1⟩
theorem qn_dig (n : Nat) (hn : n < 10000000000000000000) : Qn (dgtB n) := ⟨quiet_bytes (fun c hc => by have := dig_all n hn c hc; unfold digC at this; omega), nonl_dig n hn⟩
theorem qn_name {n : ByteArray} (h : NmOk n) : Qn n := ⟨quiet_name h, nonl_name h⟩
theorem inq_wes : ∀ k, k < 12 → InQ (bl (wes k))
  | 0, _ => inq_byte (c := 97) (by decide) (by decide)
  | 1, _ => inq_byte (c := 98) (by decide) (by decide)
  | 2, _ => inq_byte (c := 32) (by decide) (by decide)
  | 3, _ => inq_esc 34
  | 4, _ => inq_esc 92
  | 5, _ => inq_esc 110
  | 6, _ => inq_esc 116
  | 7, _ => inq_byte (c := 35) (by decide) (by decide)
  | 8, _ => inq_byte (c := 61) (by decide) (by decide)
  | 9, _ => inq_byte (c := 44) (by decide) (by decide)
  | 10, _ => inq_byte (c := 93) (by decide) (by decide)
  | 11, _ => inq_byte (c := 125) (by decide) (by decide)
  | k + 12, h => absurd h (by omega)
theorem nonl_wes : ∀ k, k < 12 → (bl (wes k)).all (fun c => decide (c ≠ 10)) = true := by decide +kernel
theorem wLoop_q : ∀ (f c : Nat) (s w : ByteArray), ∃ W, (wLoop f c s w).2 = w ++ W ∧ InQ (bl W) ∧ NoNl W
  | 0, c, s, w => ⟨⟨#[]⟩, (app_nil w).symm, inq_nil, nonl_lit _ (by decide)⟩
  | f + 1, c, s, w => by
    unfold wLoop
    split
    · exact ⟨⟨#[]⟩, (app_nil w).symm, inq_nil, nonl_lit _ (by decide)⟩
    · obtain ⟨W, e, h1, h2⟩ := wLoop_q f (c / 12) (s ++ wx (c % 12)) (w ++ wes (c % 12))
      have hk : c % 12 < 12 := Nat.mod_lt _ (by decide)
      exact ⟨wes (c % 12) ++ W, by rw [e, ByteArray.append_assoc], by rw [bl_app]; exact (inq_wes _ hk).app h1, (nonl_lit _ (nonl_wes _ hk)).app h2⟩
theorem qn_word (c : Int) : Qn (wordW c) := by
  unfold wordW
  obtain ⟨W, e, h1, h2⟩ := wLoop_q 12 (pk c 1099511627776) ⟨#[]⟩ ⟨#[34]⟩
  rw [e]
  refine ⟨?_, ((nonl_lit _ (by decide)).app h2).app (nonl_lit _ (by decide))⟩
  rw [bl_app, bl_app]
  exact quiet_quote h1
theorem qn_oneP (k : Nat) (c : Int) : Qn (oneP k c) := by
  have hn := numN_lt c
  unfold oneP
  split
  · unfold numP
    split
    · exact (qn_lit _ (by decide)).app (qn_dig _ (by omega))
    · exact qn_dig _ (by omega)
  · split
    · split
      · exact qn_lit _ (by decide)
      · exact qn_lit _ (by decide)
    · exact qn_word c
theorem qn_lstP {g : Nat → ByteArray} (h : ∀ i, Qn (g i)) : ∀ n, Qn (lstP g n)
  | 0 => qn_lit ⟨#[91]⟩ (by decide)
  | n + 1 => by
    unfold lstP
    split
    · exact ((qn_lstP h n).app (qn_lit _ (by decide))).app (h n)
    · exact (qn_lstP h n).app (h n)
theorem qn_thP (c : Int) : Qn (thP c) := by
  unfold thP
  split
  · exact (qn_lstP (fun i => qn_oneP _ _) _).app (qn_lit _ (by decide))
  · exact qn_oneP _ _
/-- The lines of the plain text. -/
def hlP (i : Nat) (c : Int) : List ByteArray := if hk c = 0 then [⟨#[91, 116]⟩ ++ dgtB i ++ ⟨#[93]⟩] else if hk c = 1 then [⟨#[]⟩] else if hk c = 2 then [⟨#[35, 32, 114]⟩ ++ dgtB i] else []
def plP (i : Nat) (c : Int) : ByteArray := nmB i c ++ ⟨#[32, 61, 32]⟩ ++ thP (c.tdiv 11) ++ (if rk c = true then ⟨#[32, 35, 32, 115]⟩ ++ dgtB i else ⟨#[]⟩)
def lnP (raw : List Int) : Nat → List ByteArray
  | 0 => []
  | k + 1 => lnP raw k ++ (hlP k (rw_ raw k) ++ [plP k (rw_ raw k)])
theorem text_app (a b : List ByteArray) : textOf (a ++ b) = textOf a ++ textOf b := by
  revert b
  refine snoc_ind ?_ ?_
  · rw [List.append_nil]; exact (app_nil _).symm
  · intro b l ih
    rw [← List.append_assoc, text_snoc, text_snoc, ih, ByteArray.append_assoc, ByteArray.append_assoc, ByteArray.append_assoc]
theorem mtext_one (l : ByteArray) : textOf [l] = l ++ ⟨#[10]⟩ := by
  show (⟨#[]⟩ : ByteArray) ++ l ++ ⟨#[10]⟩ = _
  rw [nil_app]
theorem text_hlP (i : Nat) (c : Int) : textOf (hlP i c) = hdP i c := by
  unfold hlP hdP
  split
  · rw [mtext_one, ByteArray.append_assoc]; rfl
  · split
    · rfl
    · split
      · rw [mtext_one]
      · rfl
theorem text_mkP (raw : List Int) : ∀ k, textOf (lnP raw k) = mkP raw k
  | 0 => rfl
  | k + 1 => by
    unfold lnP mkP
    rw [text_app, text_app, text_mkP raw k, text_hlP, mtext_one]
    rfl
theorem nonl_lnP (raw : List Int) : ∀ k, k ≤ 20 → ∀ l ∈ lnP raw k, NoNl l
  | 0, _, l, hl => by cases hl
  | k + 1, h, l, hl => by
    unfold lnP at hl
    have hd := nonl_dig k (by omega)
    rw [List.mem_append, List.mem_append, List.mem_singleton] at hl
    rcases hl with hl | hl | rfl
    · exact nonl_lnP raw k (by omega) l hl
    · unfold hlP at hl
      split at hl
      · rw [List.mem_singleton] at hl
        subst hl
        exact ((nonl_lit _ (by decide)).app hd).app (nonl_lit _ (by decide))
      · split at hl
        · rw [List.mem_singleton] at hl
          subst hl
          exact nonl_lit _ (by decide)
        · split at hl
          · rw [List.mem_singleton] at hl
            subst hl
            exact (nonl_lit _ (by decide)).app hd
          · cases hl
    · unfold plP
      refine (((nonl_name (mnm_ok k _ (by omega))).app (nonl_lit _ (by decide))).app (qn_thP _).n).app ?_
      split
      · exact (nonl_lit _ (by decide)).app hd
      · exact nonl_lit _ (by decide)
theorem rm_hash {s : ByteArray} {l : List Nat} (e : bl s = 35 :: l) : rmsOf [s] = [s] := by
  have : rmLine s = some s := rmLine_some (s := s) (R := s) (l := []) (List.nil_append _).symm (by rw [e]; exact scan_hash l)
  unfold rmsOf
  simp [this]
theorem rm_behind {s R : ByteArray} {l : List Nat} (h : Quiet (bl s)) (e : bl R = 35 :: l) : rmsOf [s ++ R] = [R] := by
  have : rmLine (s ++ R) = some R := rmLine_some (bl_app s R) (by rw [bl_app, h, e]; exact scan_hash l)
  unfold rmsOf
  simp [this]
theorem rm_hlP {i : Nat} (hi : i < 20) (c : Int) : rmsOf (hlP i c) = if hk c = 2 then [⟨#[35, 32, 114]⟩ ++ dgtB i] else [] := by
  unfold hlP
  by_cases h0 : hk c = 0
  · rw [if_pos h0, if_neg (by omega)]
    exact rms_quiet (((qn_lit _ (by decide)).app (qn_dig i (by omega))).app (qn_lit _ (by decide))).q
  · rw [if_neg h0]
    by_cases h1 : hk c = 1
    · rw [if_pos h1, if_neg (by omega)]; rfl
    · rw [if_neg h1]
      split
      · exact rm_hash (l := 32 :: 114 :: bl (dgtB i)) (by rw [bl_app]; rfl)
      · rfl
theorem rm_plP {i : Nat} (hi : i < 20) (c : Int) : rmsOf [plP i c] = if rk c = true then [⟨#[35, 32, 115]⟩ ++ dgtB i] else [] := by
  have hq := ((qn_name (mnm_ok i c hi)).app (qn_lit ⟨#[32, 61, 32]⟩ (by decide))).app (qn_thP (c.tdiv 11))
  unfold plP
  by_cases h : rk c = true
  · rw [if_pos h, if_pos h]
    have e : (⟨#[32, 35, 32, 115]⟩ ++ dgtB i : ByteArray) = ⟨#[32]⟩ ++ (⟨#[35, 32, 115]⟩ ++ dgtB i) := by rw [← ByteArray.append_assoc]; rfl
    rw [e, ← ByteArray.append_assoc]
    exact rm_behind (l := 32 :: 115 :: bl (dgtB i)) (hq.app (qn_lit ⟨#[32]⟩ (by decide))).q (by rw [bl_app]; rfl)
  · rw [if_neg h, if_neg h, app_nil]
    exact rms_quiet hq.q
theorem rms_plain (raw : List Int) : ∀ k, k ≤ 20 → rmsOf (lnP raw k) = rml raw k
  | 0, _ => rfl
  | k + 1, h => by
    unfold lnP rml rmI
    rw [rms_app, rms_app, rms_plain raw k (by omega), rm_hlP (by omega), rm_plP (by omega)]
/-- Kept, of the texts alone. -/
theorem kept_plain (raw : List Int) (k : Nat) (hk : k ≤ 20) : rmsOf (linesOf (mkP raw k)) = rml raw k := by
  rw [← text_mkP, (lines_text _ (nonl_lnP raw k hk)).1, rms_plain raw k hk]
/-- A laid text's lines. -/
theorem nonl_lay {fn : Int → ByteArray} (hf : FnOk fn) (wd : Nat) : ∀ (l : List It) (o : Option Nat), (∀ t ∈ l, GoodIt t) → (∀ R, o = some R → ∀ t ∈ blockOf l, (jn t.path).size ≤ R) → ∀ x ∈ layR (flatV fn) wd o l, NoNl x
  | [], o, _, _, x, hx => by cases hx
  | t :: r, o, hg, hR, x, hx => by
    have hgt := hg t (by simp)
    have hgr : ∀ u ∈ r, GoodIt u := fun u hu => hg u (by simp [hu])
    unfold layR at hx
    by_cases hk : t.k = 61
    · rw [if_pos hk, List.mem_append] at hx
      have key : ∀ (l : List It) (n : Nat), n ≤ l.foldl (fun r t => max r (jn t.path).size) n ∧ ∀ u ∈ l, (jn u.path).size ≤ l.foldl (fun r t => max r (jn t.path).size) n := by
        intro l
        induction l with
        | nil => intro n; exact ⟨Nat.le_refl _, fun u hu => by cases hu⟩
        | cons a l ih =>
          intro n
          obtain ⟨i1, i2⟩ := ih (max n (jn a.path).size)
          refine ⟨Nat.le_trans (Nat.le_max_left _ _) i1, fun u hu => ?_⟩
          rw [List.mem_cons] at hu
          rcases hu with rfl | hu
          · exact Nat.le_trans (Nat.le_max_right _ _) i1
          · exact i2 u hu
      have hroom : ∀ u ∈ blockOf (t :: r), (jn u.path).size ≤ o.getD (roomOf (blockOf (t :: r))) := by
        intro u hu
        cases o with
        | none => exact (key _ 0).2 u hu
        | some R => exact hR R rfl u hu
      generalize o.getD (roomOf (blockOf (t :: r))) = R at *
      rcases hx with hx | hx
      · obtain ⟨y, ys, e, hy, hys⟩ := pair_lines hf wd hgt hk (hroom t (by rw [block_cons_pos hk]; simp))
        rw [e, List.mem_cons] at hx
        rcases hx with rfl | hx
        · exact hy.1.nl
        · exact (hys x hx).1.nl
      · exact nonl_lay hf wd r (some R) hgr (fun R' e u hu => by cases e; exact hroom u (by rw [block_cons_pos hk]; simp [hu])) x hx
    · rw [if_neg hk, List.mem_cons] at hx
      rcases hx with rfl | hx
      · by_cases h91 : t.k = 91
        · exact (other_head hgt h91).1.nl
        · by_cases he : emptyB t = true
          · have := other_empty h91 he
            unfold LnE at this
            rw [size_zero _ this]
            exact nonl_lit _ (by decide)
          · exact (other_remark hgt h91 hk (by simpa using he)).1.nl
      · exact nonl_lay hf wd r none hgr (fun R e => by cases e) x hx
theorem lines_laid {fn : Int → ByteArray} (hf : FnOk fn) (wd : Nat) (raw : List Int) (k : Nat) (hk : k ≤ 20) : linesOf (textOf (layOf (flatV fn) wd (itO raw k))) = layOf (flatV fn) wd (itO raw k) := by
  refine (lines_text _ ?_).1
  rw [layOf_layR]
  exact nonl_lay hf wd _ none (sp_mem good_blank (good_itO raw k hk) (by intro t ht; cases ht)) (fun R e => by cases e)
theorem kept_laid {fn : Int → ByteArray} (hf : FnOk fn) (wd : Nat) (raw : List Int) (k : Nat) (hk : k ≤ 20) : rmsOf (linesOf (textOf (layOf (flatV fn) wd (itO raw k)))) = rml raw k := by
  rw [lines_laid hf wd raw k hk, rms_laid hf wd raw k hk]
end Go.Proofs.YtdebjhdafnpfkabGreatDoor

namespace Go.Proofs.YtdebjhdafnpfkabGreatDoor
open Go.ChangeShapes Go.WideShapes Go.ChangeAt Go.RowKit
set_option linter.unusedVariables false
set_option linter.unusedSimpArgs false
theorem str_cells (s : ByteArray) : Lib.strCells s = Lib.byteCells s.data.toList := rfl
theorem lines_cells (ls : List ByteArray) : linesC ls = Lib.byteCells (textOf ls).data.toList := by
  revert ls
  refine snoc_ind ?_ ?_
  · rfl
  · intro ls l ih
    rw [linesC_app, linesC_one, ih, text_snoc, str_cells, ByteArray.data_append, ByteArray.data_append, Array.toList_append, Array.toList_append, byteCells_app, byteCells_app, List.append_assoc]
    rfl
/-- A line of a made text, its bounds too. -/
structure LayIt (t : It) : Prop where
  kind : t.k = 61 → GoodV t.v
  zp : (jn t.path).size ≤ 100
  zr : t.rem.size ≤ 100000
theorem layR_step {fl : V → ByteArray} {wd : Nat} {l : List It} (h : blockOf l ≠ []) : layR fl wd none l = bLines fl wd (blockOf l) ++ layR fl wd none (l.drop (blockOf l).length) := by
  rw [layR_none h, layR_some]
  rfl
theorem layR_other {fl : V → ByteArray} {wd : Nat} {t : It} {r : List It} (h : t.k ≠ 61) : layR fl wd none (t :: r) = otherS t :: layR fl wd none r := by
  conv => lhs; unfold layR
  rw [if_neg h]
theorem block_mem {l : List It} {t : It} (h : t ∈ blockOf l) : t ∈ l ∧ t.k = 61 := by
  refine ⟨(List.takeWhile_sublist _).subset h, ?_⟩
  induction l with
  | nil => cases h
  | cons a l ih =>
    by_cases ha : a.k = 61
    · rw [block_cons_pos ha, List.mem_cons] at h
      rcases h with rfl | h
      · exact ha
      · exact ih h
    · rw [block_cons_neg ha] at h
      cases h
theorem bLines_len {fl : V → ByteArray} {wd : Nat} (c : List It) (h : ∀ t ∈ c, (linesC (pLines fl wd (roomOf c) t)).length ≤ 2500000) : (linesC (bLines fl wd c)).length ≤ c.length * 2500000 := by
  unfold bLines
  generalize roomOf c = R at *
  induction c with
  | nil => simp [linesC]
  | cons a c ih =>
    have h1 := h a (by simp)
    have h2 := ih (fun t ht => h t (by simp [ht]))
    rw [List.map_cons, List.flatten_cons, linesC_app, List.length_append, List.length_cons]
    omega
theorem block_take (l : List It) : blockOf l = l.take (blockOf l).length := by
  unfold blockOf
  exact List.prefix_iff_eq_take.1 (List.takeWhile_prefix _)
theorem other_size (t : It) (h1 : (jn t.path).size ≤ 100) (h2 : t.rem.size ≤ 100000) : (otherS t).size ≤ 500000 := by
  unfold otherS
  have e1 : (⟨#[91]⟩ : ByteArray).size = 1 := rfl
  have e2 : (⟨#[93]⟩ : ByteArray).size = 1 := rfl
  split
  · have := behS_size ((⟨#[91]⟩ : ByteArray) ++ jn t.path ++ (⟨#[93]⟩ : ByteArray)) t h2
    rw [ByteArray.size_append, ByteArray.size_append, ByteArray.size_append, e1, e2]
    omega
  · have := behS_size ⟨#[]⟩ t h2
    omega
set_option maxRecDepth 100000 in
set_option maxHeartbeats 2000000 in
/-- The layout of a made text. -/
theorem lay_any (T : Nat → Nat) (wd : Nat) (items : List It) (q : Nat) (w0 w : World) (hsh : SheetOk w0 w q items) (hT : TabW T w) (hG : 4 < w.heap.size) (hit : ∀ t ∈ items, LayIt t) (hlen : items.length ≤ 4000) :
    Calls Tryz.prog 20 #[ptr q, .int .i64 wd] w fun e w' => e = .returned (.string (textOf (layOf (flatV (fnT T)) wd items))) ∧ Below w.heap.size w w' ∧ (textOf (layOf (flatV (fnT T)) wd items)).size ≤ 20000000000 := by
  obtain ⟨_, hq, b0, ev, es, hc, ho, he⟩ := sheet_ents hsh
  have hes : es.length = items.length := he.1
  have HO : Hid (w.ownsRow (b0 + 1) 93 1 ev es.length es) := ho
  have HE : Hid (EntsAt (fun k => k ≠ w.heap.size) none w es items) := he
  have Hes := hid hes
  have HT := hid hT
  have HSP : Hid (∀ t ∈ spacedOf items, LayIt t) := sp_mem ⟨fun h => (by cases h), (by decide), (by decide)⟩ hit (by intro t ht; cases ht)
  have FR : Hid (layOf (flatV (fnT T)) wd items = layR (flatV (fnT T)) wd none (spacedOf items)) := layOf_layR _ _ _
  clear hsh ho he hes hT hit
  obtain ⟨ade, cape, hev⟩ := ownsS_form HO.out
  subst hev
  go_enter Tryz.func20, Tryz.ntmps20
  go_wp2_with fail
  have hB1 : Below w.heap.size w (w.alloc (.cells #[.pointer none, .slice none 0 0, .int .i64 wd] 88)) := (Below.refl _ _).alloc (Nat.le_refl _) _
  have hz1 : (w.alloc (.cells #[.pointer none, .slice none 0 0, .int .i64 wd] 88)).heap.size = w.heap.size + 1 := by simp
  have hpg : (w.alloc (.cells #[.pointer none, .slice none 0 0, .int .i64 wd] 88)).heap[w.heap.size]? = some (.cells #[.pointer none, .slice none 0 0, .int .i64 wd] 88 (0, 0)) := by
    have e : ∀ o : Obj, (w.alloc o).heap = w.heap.push o := fun o => rfl
    rw [e]
    simp
  have HO1 : Hid ((w.alloc (.cells #[.pointer none, .slice none 0 0, .int .i64 wd] 88)).ownsRow (b0 + 1) 93 1 (.slice ade es.length cape) es.length es) := owns_frame HO.out (fun k k1 k2 => hB1.block k k2)
  have HE1 : Hid (EntsAt (fun k => k ≠ w.heap.size) none (w.alloc (.cells #[.pointer none, .slice none 0 0, .int .i64 wd] 88)) es items) := HE.out.below hB1
  have HB1 := hid hB1
  clear hB1 HO HE
  generalize (w.alloc (.cells #[.pointer none, .slice none 0 0, .int .i64 wd] 88)) = W1 at *
  refine (spaced_any (b0 + 1) _ es items W1 HO1.out HE1.out (by have := Hes.out; omega) (fun k hk => by show k ≠ w.heap.size; omega)).mono ?_
  rintro e w2 ⟨ev', m, es', rfl, ho2, he2, hm2, hB2⟩
  have hz2 := hB2.size
  have hml : (spacedOf items).length = m := by
    have h1 := ho2.1
    have h2 := he2.1
    omega
  have hm8 : m ≤ 8000 := by have := Hes.out; omega
  generalize hsp : spacedOf items = sp at *
  obtain ⟨b, hb⟩ : ∃ b, b = w.heap.size := ⟨_, rfl⟩
  have hpg2 : w2.heap[b]? = some (.cells #[.pointer none, .slice none 0 0, .int .i64 wd] 88 (0, 0)) := by rw [hb, hB2.block _ (by omega)]; exact hpg
  have hBw2 : Below w.heap.size w w2 := HB1.out.trans (hB2.mono (by omega))
  have HP2 : Hid (PageAt w2.heap.size w2 b wd (linesC [])) := .inl ⟨by omega, _, hpg2, World.ownsRow_nil _ _ _ _, by simp [Value.ownBlock]⟩
  obtain ⟨av, cv, hev⟩ := ownsS_form ho2
  subst hev
  have HO2 : Hid (w2.ownsRow W1.heap.size 93 1 (.slice av m cv) m es') := ho2
  have HE2 : Hid (EntsAt (fun k => k ≠ b) none w2 es' sp) := by rw [hb]; exact he2
  have HBw2 : Hid (Below w.heap.size w w2) := hBw2
  have hbl : b < w2.heap.size := by omega
  have hbW : b < W1.heap.size := by omega
  have HTK : Hid (TabK T b w2.heap.size w2) := ⟨fun i hi => (hBw2.cell (p := ⟨4, i, none⟩) hG).trans (HT.out i hi), by omega, by omega⟩
  have HML := hid hml
  rw [← hb]
  have Hb := hid hb
  clear ho2 he2 hBw2 hpg2 hpg hB2 HB1 HO1 HE1 hb hml hsp
  have hav : Hid (0 < m → ∃ g, av = some ⟨g, 0, none⟩ ∧ m ≤ cv) := fun h0 => by
    rcases HO2.out.2 with ⟨hv, h0'⟩ | ⟨g, cap, cur, hv, _, _, hc5, _⟩
    · omega
    · cases hv
      exact ⟨g, rfl, hc5⟩
  go_wp2_with fail
  go_loopw [6] (fun env wr => ∃ off : Nat, off ≤ m ∧ (∃ ad cap, env = .slice ad (m - off) cap ∧ (off < m → ∃ g, av = some ⟨g, 0, none⟩ ∧ ad = some ⟨g, off, none⟩ ∧ cap = cv - off)) ∧ ∃ done : List ByteArray, Hid (PageAt w2.heap.size wr b wd (linesC done)) ∧ Hid (Kp b w2.heap.size w2 wr) ∧ Hid (done ++ layR (flatV (fnT T)) wd none (sp.drop off) = layR (flatV (fnT T)) wd none sp) ∧ Hid ((linesC done).length ≤ off * 2500000)) (fun env _ => match env with | .slice _ n _ => n | _ => 0)
  case atStart => exact ⟨0, Nat.zero_le _, ⟨av, cv, rfl, fun h0 => by obtain ⟨g, e, _⟩ := hav.out h0; exact ⟨g, e, e, rfl⟩⟩, [], HP2, Kp.refl _ _ _, rfl, by unfold Hid; simp [linesC]⟩
  case round =>
    obtain ⟨off, hoff, ⟨ad, cap, rfl, hac⟩, done, hP, hK, hD, hL⟩ := hrel
    have hzr := hK.out.size
    by_cases hom : off < m
    · obtain ⟨g, hav2, rfl, rfl⟩ := hac hom
      have hmc : m ≤ cv := (hav.out (by omega)).choose_spec.2
      subst hav2
      have HO3 := hid (owns_kp HO2.out hK.out (by decide) hbW)
      have hrest : 0 < m - off := by omega
      clear hac hav
      generalize hr : m - off = rr at *
      have hspl : sp.length = m := HML.out
      have HSR : Hid (SubRow wr (.slice (some ⟨g, off, none⟩) rr (cv - off)) rr (es'.drop off)) := by
        have := SubRow.off HO3.out (by omega : off ≤ m) (cv - off)
        rw [hr] at this
        exact this
      go_wp2_with fail
      refine (firstBlock_any _ (es'.drop off) (sp.drop off) rr wr HSR.out ((ents_now HE2.out hK.out).drop off) (by omega)).mono ?_
      rintro e w3 ⟨bv, qs, rfl, ho3, hmap, hblk, hq1, hB3⟩
      have hz3 := hB3.size
      have HK3 : Hid (Kp b w2.heap.size w2 w3) := hK.out.below hB3 hzr
      have HP3 : Hid (PageAt w2.heap.size w3 b wd (linesC done)) := hP.out.frame hB3
      obtain ⟨a3, c3, e3⟩ := ownsS_form ho3
      subst e3
      by_cases hq0 : qs = []
      · subst hq0
        obtain ⟨v, hv⟩ : ∃ v, es'[off]? = some v := ⟨_, List.getElem?_eq_getElem (by have := HO2.out.1; omega)⟩
        obtain ⟨t, ht⟩ : ∃ t, sp[off]? = some t := ⟨_, List.getElem?_eq_getElem (by omega)⟩
        have HEA : Hid (EntAt (fun k => k ≠ b) none w3 v t) := (ent_now (HE2.out.2 off v t hv ht) HK3.out).2
        obtain ⟨g', hg', _, _, hcl⟩ := rowv_cell (owns_kp HO2.out HK3.out (by decide) hbW) off v hv
        cases hg'
        obtain ⟨tt, qv, rfl, _⟩ := ent_form HEA.out
        have hli := HSP.out t (List.mem_of_getElem? ht)
        have hdr : sp.drop off = t :: sp.drop (off + 1) := by
          rw [List.drop_eq_getElem_cons (by omega)]
          congr 1
          rw [List.getElem?_eq_getElem (by omega)] at ht
          exact Option.some.inj ht
        have htk : t.k ≠ 61 := by
          intro e
          rw [hdr, block_cons_pos e] at hblk
          simp at hblk
        have HD2 : Hid ((done ++ [otherS t]) ++ layR (flatV (fnT T)) wd none (sp.drop (off + 1)) = layR (flatV (fnT T)) wd none sp) := by
          unfold Hid
          rw [← hD.out, hdr, layR_other htk, List.append_assoc]
          rfl
        have hos : (otherS t).size ≤ 500000 := other_size t hli.zp hli.zr
        have HL2 : Hid ((linesC (done ++ [otherS t])).length ≤ (off + 1) * 2500000) := by
          have := hL.out
          unfold Hid
          rw [linesC_app, linesC_one, List.length_append, List.length_append, Lib.strCells_length]
          simp only [List.length_cons, List.length_nil]
          omega
        have hle : (linesC done).length ≤ 100000000000000 := by have := hL.out; omega
        clear ho3 hmap hblk hq1 hB3 hP hv hdr
        go_wp2_with fail
        refine (layOther_any b w2.heap.size wd (linesC done) _ t w3 HP3.out (by omega) HEA.out htk hli.zr (by have := hli.zp; omega) hle).mono ?_
        rintro e w4 ⟨rfl, hP4, hK4⟩
        have HP4 : Hid (PageAt w2.heap.size w4 b wd (linesC (done ++ [otherS t]))) := by
          unfold Hid
          rw [linesC_app, linesC_one, ← List.append_assoc]
          exact hP4
        have HK4 : Hid (Kp b w2.heap.size w2 w4) := HK3.out.trans hK4
        clear hP4 hK4
        go_wp2_with fail
        refine ⟨⟨off + 1, by omega, ⟨_, _, by rw [show rr - 1 = m - (off + 1) by omega], fun h => ⟨g, rfl, by rw [if_neg (by omega)], by omega⟩⟩, done ++ [otherS t], HP4, HK4, HD2, HL2⟩, ?_⟩
        show rr - 1 < rr
        omega
      · have hqp : 0 < qs.length := by
          cases qs with
          | nil => exact absurd rfl hq0
          | cons => simp
        have hbk0 : blockOf (sp.drop off) ≠ [] := by
          rw [hblk]
          intro e
          have h9 := congrArg List.length e
          rw [List.length_take, List.length_drop] at h9
          simp only [List.length_nil] at h9
          omega
        have hbl2 : (blockOf (sp.drop off)).length = qs.length := by
          rw [hblk, List.length_take, List.length_drop]
          omega
        have hD2 : Hid ((done ++ bLines (flatV (fnT T)) wd (blockOf (sp.drop off))) ++ layR (flatV (fnT T)) wd none (sp.drop (off + qs.length)) = layR (flatV (fnT T)) wd none sp) := by
          unfold Hid
          rw [← hD.out, layR_step hbk0, List.append_assoc, List.drop_drop, hbl2]
        have hmem : Hid (∀ t ∈ blockOf (sp.drop off), LayIt t ∧ t.k = 61) := fun t ht => by
          have := block_mem ht
          exact ⟨HSP.out t (List.mem_of_mem_drop this.1), this.2⟩
        have hroom : roomOf (blockOf (sp.drop off)) ≤ 100 := room_le _ 100 (fun t ht => (hmem.out t ht).1.zp)
        have hB3w : w2.heap.size ≤ w3.heap.size := by omega
        have HPL : Hid (∀ (i q : Nat) (t : It), qs[i]? = some q → (blockOf (sp.drop off))[i]? = some t → PairLayG b w2.heap.size w3 wd (roomOf (blockOf (sp.drop off))) (pLines (flatV (fnT T)) wd (roomOf (blockOf (sp.drop off)))) q t) := fun i q' t' h1 h2 => by
          have hm := hmem.out t' (List.mem_of_getElem? h2)
          have h3 : es'[off + i]? = some (pairV q') := map_at hmap h1
          have h4 : sp[off + i]? = some t' := by
            rw [block_take, List.getElem?_take] at h2
            split at h2
            · rw [List.getElem?_drop] at h2; exact h2
            · cases h2
          obtain ⟨⟨S, hS, hPE⟩, _⟩ := ent_now (HE2.out.2 (off + i) _ t' h3 h4) HK3.out
          have htk : TabK T b w2.heap.size w3 := ⟨fun j hj => (HK3.out.cell (p := ⟨4, j, none⟩) HTK.out.lt HTK.out.ne).trans (HTK.out.tab j hj), HTK.out.lt, HTK.out.ne⟩
          exact pair_lay htk hPE hS hm.2 (hm.1.kind hm.2) hm.1.zp hm.1.zr hroom hB3w
        have HL2 : Hid ((linesC (done ++ bLines (flatV (fnT T)) wd (blockOf (sp.drop off)))).length ≤ (off + qs.length) * 2500000) := by
          have h5 := hL.out
          have h6 := bLines_len (fl := flatV (fnT T)) (wd := wd) (blockOf (sp.drop off)) (fun t ht => by
            obtain ⟨i, hi, rfl⟩ := List.getElem_of_mem ht
            exact (HPL.out i (qs[i]'(by omega)) _ (List.getElem?_eq_getElem _) (List.getElem?_eq_getElem _)).zf)
          unfold Hid
          rw [linesC_app, List.length_append]
          rw [hbl2] at h6
          omega
        have HO4 : Hid (w3.ownsRow w2.heap.size 61 1 (.slice a3 qs.length c3) qs.length (qs.map ptr)) := owns_lower ho3 hzr
        have hle : (linesC done).length ≤ 10000000000000 := by have := hL.out; omega
        have hqm : qs.length ≤ m - off := by omega
        have tq : ((qs.length : Int) == 0) = false := by simp; omega
        have hq0' := hid hq0
        clear ho3 hmap hblk hB3 hP hbk0 hq0 hmem
        go_wp2_with fail
        refine (layBlock_gen b w2.heap.size wd (linesC done) _ qs (blockOf (sp.drop off)) (pLines (flatV (fnT T)) wd (roomOf (blockOf (sp.drop off)))) w3 HP3.out (by omega) hbl HO4.out (by omega) (by omega) HPL.out hle).mono ?_
        rintro e w4 ⟨rfl, hP4, hK4⟩
        have HP4 : Hid (PageAt w2.heap.size w4 b wd (linesC (done ++ bLines (flatV (fnT T)) wd (blockOf (sp.drop off))))) := by
          unfold Hid
          rw [linesC_app]
          exact hP4
        have HK4 : Hid (Kp b w2.heap.size w2 w4) := HK3.out.trans hK4
        clear hP4 hK4 HPL
        go_wp2_with fail
        refine ⟨⟨off + qs.length, by omega, ⟨_, _, by rw [show rr - qs.length = m - (off + qs.length) by omega], fun h => ⟨g, rfl, by rw [if_neg (by omega)], by omega⟩⟩, _, HP4, HK4, hD2, HL2⟩, ?_⟩
        show rr - qs.length < rr
        omega
    · have eom : off = m := by omega
      have FE : Hid (done = layR (flatV (fnT T)) wd none sp) := by
        have := hD.out
        rw [List.drop_of_length_le (by have := HML.out; omega)] at this
        unfold Hid
        rw [← this]
        exact (List.append_nil _).symm
      have FX : Hid (textOf (layOf (flatV (fnT T)) wd items) = textOf done) := by unfold Hid; rw [FR.out, FE.out]
      have HSZ : Hid ((textOf (layOf (flatV (fnT T)) wd items)).size ≤ 20000000000) := by
        unfold Hid
        rw [FX.out]
        have h1 := hL.out
        rw [lines_cells, ← str_cells, Lib.strCells_length] at h1
        omega
      have hac2 : ∃ ad' n' cap', (Value.slice ad (m - off) cap) = .slice ad' n' cap' ∧ n' = 0 := ⟨_, _, _, rfl, by omega⟩
      have hmz : m - off = 0 := by omega
      rw [hmz]
      have Fin : Hid (PageAt w2.heap.size wr b wd (Lib.byteCells (textOf done).data.toList)) := by
        have h1 := hP.out
        rw [lines_cells] at h1
        exact h1
      have HBF : Hid (∀ w5, Below w2.heap.size wr w5 → Below w.heap.size w w5) := fun w5 hB5 => by
        have hh := Hb.out
        refine HBw2.out.trans ⟨hB5.os.trans hK.out.os, hB5.tape.trans hK.out.tape, hB5.output.trans hK.out.output, Nat.le_trans hK.out.size hB5.size, fun k hk => ?_⟩
        rw [hB5.block k (by omega)]
        exact hK.out.block k (by omega) (by omega)
      clear hP hac hac2 FE hD hmz
      go_wp2_with fail
      by_cases hne : (textOf done).data.toList = []
      · have Fin0 : Hid (PageAt w2.heap.size wr b wd []) := by
          have := Fin.out
          rw [hne] at this
          exact this
        have FX0 : Hid (textOf (layOf (flatV (fnT T)) wd items) = ⟨#[]⟩) := by
          unfold Hid
          rw [FX.out]
          apply ByteArray.ext
          apply Array.toList_inj.1
          rw [hne]
        refine (pstring0 w2.heap.size b wd wr Fin0.out).mono ?_
        rintro e w5 ⟨rfl, hB5⟩
        have HB5 := hid (HBF.out w5 hB5)
        clear hB5
        go_wp2_with fail
        go_ret
        exact ⟨by rw [FX0.out]; rfl, HB5.out, HSZ.out⟩
      · refine (pstring w2.heap.size b wd _ wr Fin.out hne).mono ?_
        rintro e w5 ⟨rfl, hB5⟩
        have HB5 := hid (HBF.out w5 hB5)
        clear hB5
        go_wp2_with fail
        go_ret
        exact ⟨by rw [FX.out]; rfl, HB5.out, HSZ.out⟩
end Go.Proofs.YtdebjhdafnpfkabGreatDoor
