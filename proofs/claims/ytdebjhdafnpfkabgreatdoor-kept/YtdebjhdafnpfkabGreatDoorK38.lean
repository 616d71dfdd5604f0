import Derived.Test.YtdebjhdafnpfkabGreatDoorK35
namespace Go.Proofs.YtdebjhdafnpfkabGreatDoor
set_option linter.unusedVariables false
set_option linter.unusedSimpArgs false
/-- hemkeep's lines. -/
def lnsAt (s : ByteArray) : Nat → List ByteArray × Nat
  | 0 => ([], 0)
  | i + 1 => if bt s i = 10 then ((lnsAt s i).1 ++ [s.extract (lnsAt s i).2 i], i + 1) else lnsAt s i
def linesOf (s : ByteArray) : List ByteArray := (lnsAt s s.size).1
theorem lnsAt_le (s : ByteArray) : ∀ i, (lnsAt s i).2 ≤ i
  | 0 => Nat.le_refl _
  | i + 1 => by
    unfold lnsAt
    split
    · exact Nat.le_refl _
    · have := lnsAt_le s i; omega
theorem bt_app_left (u v : ByteArray) (i : Nat) (h : i < u.size) : bt (u ++ v) i = bt u i := by
  have h1 := bl_get (u ++ v) i (by rw [ByteArray.size_append]; omega)
  rw [bl_app, List.getElem?_append_left (by rw [bl_len]; exact h), bl_get u i h] at h1
  exact (Option.some.inj h1).symm
theorem ext_app_left (u v : ByteArray) (a b : Nat) (h : b ≤ u.size) (hab : a ≤ b) : (u ++ v).extract a b = u.extract a b := by
  apply bl_inj
  rw [bl_ext _ _ _ (by rw [ByteArray.size_append]; omega) hab, bl_ext _ _ _ h hab, bl_app, List.drop_append_of_le_length (by rw [bl_len]; omega), List.take_append_of_le_length (by rw [List.length_drop, bl_len]; omega)]
theorem lnsAt_left (u v : ByteArray) : ∀ i, i ≤ u.size → lnsAt (u ++ v) i = lnsAt u i
  | 0, _ => rfl
  | i + 1, h => by
    unfold lnsAt
    rw [lnsAt_left u v i (by omega), bt_app_left u v i (by omega), ext_app_left u v _ _ (by omega) (lnsAt_le u i)]
theorem lns_line (u l : ByteArray) (hu : (lnsAt u u.size).2 = u.size) (hl : ∀ c ∈ bl l, c ≠ 10) : linesOf (u ++ l ++ ⟨#[10]⟩) = linesOf u ++ [l] ∧ (lnsAt (u ++ l ++ ⟨#[10]⟩) (u ++ l ++ ⟨#[10]⟩ : ByteArray).size).2 = (u ++ l ++ ⟨#[10]⟩ : ByteArray).size := by
  have hz : (u ++ l ++ ⟨#[10]⟩ : ByteArray).size = u.size + l.size + 1 := by rw [ByteArray.size_append, ByteArray.size_append]; rfl
  have hbt : ∀ j, j < l.size → bt (u ++ l) (u.size + j) = bt l j := fun j hj => by
    have h1 := bl_get (u ++ l) (u.size + j) (by rw [ByteArray.size_append]; omega)
    rw [bl_app, List.getElem?_append_right (by rw [bl_len]; omega), bl_len, show u.size + j - u.size = j by omega, bl_get l j hj] at h1
    exact (Option.some.inj h1).symm
  have key : ∀ j, j ≤ l.size → lnsAt (u ++ l) (u.size + j) = lnsAt u u.size := by
    intro j
    induction j with
    | zero => intro _; exact lnsAt_left u l _ (Nat.le_refl _)
    | succ j ih =>
      intro hj
      show lnsAt (u ++ l) (u.size + j + 1) = _
      conv => lhs; unfold lnsAt
      rw [hbt j (by omega), if_neg (bl_mem (P := fun c => c ≠ 10) hl j (by omega)), ih (by omega)]
  have h10 : bt (u ++ l ++ ⟨#[10]⟩) (u.size + l.size) = 10 := by
    have h1 := bl_get (u ++ l ++ ⟨#[10]⟩) (u.size + l.size) (by omega)
    rw [bl_app, bl_app, List.getElem?_append_right (by rw [List.length_append, bl_len, bl_len]; omega), List.length_append, bl_len, bl_len, Nat.sub_self] at h1
    exact (Option.some.inj h1).symm
  have e1 : lnsAt (u ++ l ++ ⟨#[10]⟩) (u.size + l.size) = lnsAt u u.size := by
    rw [lnsAt_left (u ++ l) _ _ (by rw [ByteArray.size_append]; omega), key l.size (Nat.le_refl _)]
  have e2 : (u ++ l ++ ⟨#[10]⟩ : ByteArray).extract u.size (u.size + l.size) = l := by
    apply bl_inj
    rw [bl_ext _ _ _ (by omega) (by omega), bl_app, bl_app, List.append_assoc, List.drop_append_of_le_length (by rw [bl_len]; omega), List.drop_of_length_le (by rw [bl_len]; omega), List.nil_append, show u.size + l.size - u.size = (bl l).length by rw [bl_len]; omega, List.take_left]
  have e3 : lnsAt (u ++ l ++ ⟨#[10]⟩) (u.size + l.size + 1) = ((lnsAt u u.size).1 ++ [l], u.size + l.size + 1) := by
    conv => lhs; unfold lnsAt
    rw [h10, if_pos rfl, e1, hu, e2]
  unfold linesOf
  rw [hz, e3]
  exact ⟨rfl, rfl⟩
theorem text_snoc (ls : List ByteArray) (l : ByteArray) : textOf (ls ++ [l]) = textOf ls ++ l ++ ⟨#[10]⟩ := by
  unfold textOf
  rw [List.foldl_append]
  rfl
theorem snoc_ind {α : Type} {P : List α → Prop} (h0 : P []) (h1 : ∀ l a, P l → P (l ++ [a])) : ∀ l, P l := by
  have key : ∀ l : List α, P l.reverse := by
    intro l
    induction l with
    | nil => exact h0
    | cons a l ih => rw [List.reverse_cons]; exact h1 _ a ih
  intro l
  have := key l.reverse
  rw [List.reverse_reverse] at this
  exact this
theorem lines_text : ∀ (ls : List ByteArray), (∀ l ∈ ls, ∀ c ∈ bl l, c ≠ 10) → linesOf (textOf ls) = ls ∧ (lnsAt (textOf ls) (textOf ls).size).2 = (textOf ls).size := by
  refine snoc_ind ?_ ?_
  · intro _; exact ⟨rfl, rfl⟩
  · intro ls l ih h
    obtain ⟨h1, h2⟩ := ih (fun x hx => h x (by simp [hx]))
    have := lns_line (textOf ls) l h2 (h l (by simp))
    rw [text_snoc, this.1, h1]
    exact ⟨rfl, this.2⟩
/-- hemkeep's remarks of a line. -/
def scI (s : ByteArray) : Nat → Nat → Bool → Option Nat
  | 0, _, _ => none
  | n + 1, j, b => if s.size ≤ j then none else if b = true ∧ bt s j = 92 then scI s n (j + 2) b else if bt s j = 35 ∧ (if bt s j = 34 then !b else b) = false then some j else scI s n (j + 1) (if bt s j = 34 then !b else b)
def rmLine (s : ByteArray) : Option ByteArray := (scI s (s.size + 1) 0 false).map (fun j => s.extract j s.size)
def rmsOf (ls : List ByteArray) : List ByteArray := ls.filterMap rmLine
def scanL : Bool → List Nat → Option (List Nat)
  | _, [] => none
  | true, [_] => none
  | true, c :: d :: r => if c = 92 then scanL true r else scanL (if c = 34 then false else true) (d :: r)
  | false, c :: r => if c = 35 then some (c :: r) else scanL (if c = 34 then true else false) r
theorem scanL_nil (b : Bool) : scanL b [] = none := by cases b <;> rfl
theorem scan_true (c : Nat) (r : List Nat) (h : c ≠ 92) : scanL true (c :: r) = scanL (if c = 34 then false else true) r := by
  cases r with
  | nil => rw [scanL_nil]; rfl
  | cons d r => show (if c = 92 then _ else _) = _; rw [if_neg h]
theorem scan_esc (d : Nat) (r : List Nat) : scanL true (92 :: d :: r) = scanL true r := by show (if 92 = 92 then _ else _) = _; rw [if_pos rfl]
theorem scan_false (c : Nat) (r : List Nat) (h : c ≠ 35) : scanL false (c :: r) = scanL (if c = 34 then true else false) r := by
  cases r <;> simp only [scanL, if_neg h]
theorem scan_hash (r : List Nat) : scanL false (35 :: r) = some (35 :: r) := by cases r <;> rfl
theorem scI_scanL {s : ByteArray} : ∀ (n j : Nat) (b : Bool) (r : List Nat), Rest s j r → r.length < n → scI s n j b = (scanL b r).map (fun r' => s.size - r'.length)
  | 0, j, b, r, _, h => absurd h (by omega)
  | n + 1, j, b, [], hr, h => by
    have := rest_len hr
    unfold scI
    rw [if_pos (by simp at this; omega), scanL_nil]
    rfl
  | n + 1, j, b, c :: r, hr, h => by
    obtain ⟨h1, h2, h3⟩ := rest_cons hr
    have hl := rest_len hr
    rw [List.length_cons] at h hl
    unfold scI
    rw [if_neg (by omega), h2]
    cases b with
    | true =>
      by_cases hc : c = 92
      · subst hc
        rw [if_pos ⟨rfl, rfl⟩]
        cases r with
        | nil =>
          cases n with
          | zero => rfl
          | succ n =>
            unfold scI
            rw [if_pos (by simp at hl; omega)]
            rfl
        | cons d r =>
          obtain ⟨_, _, h4⟩ := rest_cons h3
          rw [scan_esc, scI_scanL n (j + 2) true r h4 (by simp at h; omega)]
      · rw [if_neg (fun q => hc q.2), scan_true c r hc]
        by_cases h34 : c = 34
        · subst h34
          rw [if_neg (fun q => absurd q.1 (by decide)), scI_scanL n (j + 1) _ r h3 (by omega)]
          rfl
        · rw [if_neg (by rintro ⟨_, q⟩; rw [if_neg h34] at q; cases q), if_neg h34, if_neg h34, scI_scanL n (j + 1) _ r h3 (by omega)]
    | false =>
      rw [if_neg (fun q => by cases q.1)]
      by_cases h35 : c = 35
      · subst h35
        rw [if_pos ⟨rfl, rfl⟩, scan_hash]
        show some j = some (s.size - (r.length + 1))
        rw [show s.size - (r.length + 1) = j by omega]
      · rw [if_neg (fun q => h35 q.1), scan_false c r h35]
        by_cases h34 : c = 34
        · subst h34
          rw [scI_scanL n (j + 1) _ r h3 (by omega)]
          rfl
        · rw [if_neg h34, if_neg h34, scI_scanL n (j + 1) _ r h3 (by omega)]
theorem rmLine_none {s : ByteArray} (h : scanL false (bl s) = none) : rmLine s = none := by
  unfold rmLine
  rw [scI_scanL _ 0 false _ (rest_zero s) (by rw [bl_len]; omega), h]
  rfl
theorem rmLine_some {s R : ByteArray} {l : List Nat} (e : bl s = l ++ bl R) (h : scanL false (bl s) = some (bl R)) : rmLine s = some R := by
  have hz : s.size = l.length + R.size := by rw [← bl_len, e, List.length_append, bl_len]
  unfold rmLine
  rw [scI_scanL _ 0 false _ (rest_zero s) (by rw [bl_len]; omega), h]
  show some (s.extract (s.size - (bl R).length) s.size) = some R
  congr 1
  apply bl_inj
  rw [bl_len, bl_ext _ _ _ (Nat.le_refl _) (by omega), e, show s.size - R.size = l.length by omega, List.drop_left, List.take_of_length_le (by rw [bl_len]; omega)]
/-- Bytes among which no remark begins. -/
def Quiet (l : List Nat) : Prop := ∀ r, scanL false (l ++ r) = scanL false r
def InQ (l : List Nat) : Prop := ∀ r, scanL true (l ++ r) = scanL true r
theorem Quiet.app {l m : List Nat} (h1 : Quiet l) (h2 : Quiet m) : Quiet (l ++ m) := fun r => by rw [List.append_assoc, h1, h2]
theorem InQ.app {l m : List Nat} (h1 : InQ l) (h2 : InQ m) : InQ (l ++ m) := fun r => by rw [List.append_assoc, h1, h2]
theorem inq_nil : InQ [] := fun r => rfl
theorem quiet_bytes : ∀ {l : List Nat}, (∀ c ∈ l, c ≠ 34 ∧ c ≠ 35) → Quiet l
  | [], _ => fun r => rfl
  | c :: l, h => fun r => by
    have hc := h c (by simp)
    rw [List.cons_append, scan_false c _ hc.2, if_neg hc.1]
    exact quiet_bytes (fun d hd => h d (by simp [hd])) r
theorem inq_byte {c : Nat} (h1 : c ≠ 34) (h2 : c ≠ 92) : InQ [c] := fun r => by
  show scanL true (c :: r) = _
  rw [scan_true c r h2, if_neg h1]
theorem inq_esc (c : Nat) : InQ [92, c] := fun r => scan_esc c r
theorem quiet_quote {l : List Nat} (h : InQ l) : Quiet (34 :: (l ++ [34])) := fun r => by
  rw [List.cons_append, List.append_assoc, scan_false 34 _ (by decide), if_pos rfl, h]
  show scanL true (34 :: r) = _
  rw [scan_true 34 r (by decide), if_pos rfl]
theorem inq_flatMap (s : List UInt8) : InQ ((s.flatMap escS).map UInt8.toNat) := by
  induction s with
  | nil => exact inq_nil
  | cons c s ih =>
    rw [List.flatMap_cons, List.map_append]
    refine InQ.app ?_ ih
    unfold escS
    split
    · exact inq_esc _
    · rename_i h
      split
      · exact inq_esc _
      · split
        · exact inq_esc _
        · simp only [not_or] at h
          exact inq_byte (fun e => h.1 (UInt8.toNat_inj.1 e)) (fun e => h.2 (UInt8.toNat_inj.1 e))
theorem quiet_quot (s : ByteArray) : Quiet (bl (quotS s)) := by
  have e : bl (quotS s) = 34 :: ((s.data.toList.flatMap escS).map UInt8.toNat ++ [34]) := by unfold quotS; rw [bl_arr]; simp
  rw [e]
  exact quiet_quote (inq_flatMap _)
theorem quiet_flat1 {fn : Int → ByteArray} (hf : FnOk fn) {v : V} (h : Sc v) : Quiet (bl (flat1 fn v)) := by
  rcases h with ⟨n, h1, h2, rfl⟩ | ⟨b, rfl⟩ | ⟨s, _, rfl⟩
  · exact quiet_bytes (fun c hc => by have := (hf n h1 h2).2.2 c hc; omega)
  · unfold flat1 boolV
    cases b
    · exact quiet_bytes (l := bl falseS) (by decide)
    · exact quiet_bytes (l := bl trueS) (by decide)
  · exact quiet_quot s
theorem quiet_inter {ls : List (List Nat)} (h : ∀ l ∈ ls, Quiet l) : Quiet (([44, 32] : List Nat).intercalate ls) := by
  unfold List.intercalate
  induction ls with
  | nil => exact fun r => rfl
  | cons a ls ih =>
    cases ls with
    | nil => simpa [List.intersperse] using h a (by simp)
    | cons b ls =>
      have := ih (fun l hl => h l (by simp only [List.mem_cons] at hl ⊢; exact .inr hl))
      simp only [List.intersperse, List.flatten_cons] at this ⊢
      exact (h a (by simp)).app (Quiet.app (quiet_bytes (by decide)) this)
theorem quiet_flat {fn : Int → ByteArray} (hf : FnOk fn) {v : V} (h : GoodV v) : Quiet (bl (flatV fn v)) := by
  unfold flatV
  rcases h with h | ⟨vs, rfl, _, hvs⟩
  · rw [if_neg (by rcases h with ⟨n, _, _, rfl⟩ | ⟨b, rfl⟩ | ⟨s, _, rfl⟩ <;> simp [numV, boolV, textV])]
    exact quiet_flat1 hf h
  · rw [if_pos (show (listV vs).k = 108 from rfl)]
    unfold listS
    rw [bl_app, bl_app, bl_join]
    refine ((quiet_bytes (by decide)).app (quiet_inter (fun l hl => ?_))).app (quiet_bytes (by decide))
    simp only [List.mem_map, List.map_map] at hl
    obtain ⟨x, hx, rfl⟩ := hl
    exact quiet_flat1 hf (hvs x hx)
/-- A line's remark, as it is laid out. -/
def remT (t : It) : List ByteArray := if t.rem.size = 0 then [] else [trimS (rmk t.rem)]
theorem scan_trim {r : ByteArray} (h : ∀ c ∈ bl r, c ≠ 10) : scanL false (bl (trimS r)) = some (bl (trimS r)) := by
  obtain ⟨_, h2⟩ := ln_trim h
  cases e : bl (trimS r) with
  | nil => rw [e] at h2; cases h2
  | cons c l =>
    rw [e] at h2
    simp at h2
    subst h2
    exact scan_hash l
theorem rms_quiet {x : ByteArray} (h : Quiet (bl x)) : rmsOf [x] = [] := by
  have : rmLine x = none := rmLine_none (by have := h []; rw [List.append_nil] at this; rw [this]; rfl)
  unfold rmsOf
  simp [this]
theorem rms_beh {x : ByteArray} (h : Quiet (bl x)) (s : ByteArray) (t : It) (hg : GoodIt t) (hs : s.size ≠ 0) : rmsOf [x ++ behS s t] = remT t := by
  unfold behS remT
  split
  · rw [app_nil]; exact rms_quiet h
  · have hq : Quiet (bl (x ++ ⟨#[32, 32]⟩)) := by rw [bl_app]; exact h.app (quiet_bytes (by decide))
    have : rmLine (x ++ (⟨#[32, 32]⟩ ++ trimS (rmk t.rem))) = some (trimS (rmk t.rem)) := by
      rw [← ByteArray.append_assoc]
      exact rmLine_some (bl_app _ _) (by rw [bl_app, hq]; exact scan_trim hg.rem)
    unfold rmsOf
    simp [this]
theorem rms_app (a b : List ByteArray) : rmsOf (a ++ b) = rmsOf a ++ rmsOf b := by unfold rmsOf; exact List.filterMap_append
theorem rms_cons (a : ByteArray) (b : List ByteArray) : rmsOf (a :: b) = rmsOf [a] ++ rmsOf b := rms_app [a] b
theorem rms_all {xs : List ByteArray} (h : ∀ x ∈ xs, Quiet (bl x)) : rmsOf xs = [] := by
  induction xs with
  | nil => rfl
  | cons a xs ih => rw [rms_cons, rms_quiet (h a (by simp)), ih (fun x hx => h x (by simp [hx]))]; rfl
theorem quiet_name {n : ByteArray} (h : NmOk n) : Quiet (bl n) := quiet_bytes (fun c hc => by
  have := h.let_ c hc
  unfold letterB at this
  simp at this
  omega)
theorem quiet_start {R : Nat} {t : It} {n : ByteArray} (hn : NmOk n) (hp : t.path = [n]) : Quiet (bl (startS R t)) := by
  unfold startS
  rw [hp]
  show Quiet (bl (n ++ spS (R - n.size) ++ eqS))
  rw [bl_app, bl_app, bl_sp]
  exact ((quiet_name hn).app (quiet_bytes (fun c hc => by rw [List.mem_replicate] at hc; omega))).app (quiet_bytes (by decide))
theorem rms_pair {fn : Int → ByteArray} (hf : FnOk fn) (wd R : Nat) {t : It} (hg : GoodIt t) (hk : t.k = 61) : rmsOf (pLines (flatV fn) wd R t) = remT t := by
  obtain ⟨n, hn, hp⟩ := hg.path (.inl hk)
  have hv := hg.pair hk
  have hq := quiet_start (R := R) hn hp
  unfold pLines vLines
  split
  · exact rms_beh (by rw [bl_app]; exact hq.app (quiet_flat hf hv)) _ t hg (start_pos R t)
  · rename_i hc
    have hl : ∃ vs, t.v = listV vs ∧ vs.length ≤ 8 ∧ ∀ u ∈ vs, Sc u := by
      rcases hv with h | h
      · exfalso
        apply hc
        left
        rcases h with ⟨n, _, _, e⟩ | ⟨b, e⟩ | ⟨s, _, e⟩ <;> rw [e] <;> simp [numV, boolV, textV]
      · exact h
    obtain ⟨vs, ev, _, hvs⟩ := hl
    rw [rms_app, rms_app, rms_quiet (by rw [bl_app]; exact hq.app (quiet_bytes (by decide))), rms_all, nil_app, rms_beh (quiet_bytes (by decide)) _ t hg (start_pos R t)]
    · rfl
    · intro y hy
      rw [List.mem_map] at hy
      obtain ⟨u, hu, rfl⟩ := hy
      rw [ev] at hu
      rw [bl_app, bl_app]
      exact ((quiet_bytes (by decide)).app (quiet_flat hf (.inl (hvs u hu)))).app (quiet_bytes (by decide))
theorem rms_other {t : It} (hg : GoodIt t) (hk : t.k ≠ 61) : rmsOf [otherS t] = remT t := by
  by_cases h91 : t.k = 91
  · obtain ⟨n, hn, hp⟩ := hg.path (.inr h91)
    unfold otherS
    rw [if_pos h91, hp]
    show rmsOf [(⟨#[91]⟩ : ByteArray) ++ n ++ (⟨#[93]⟩ : ByteArray) ++ behS ((⟨#[91]⟩ : ByteArray) ++ n ++ (⟨#[93]⟩ : ByteArray)) t] = _
    have hz : ((⟨#[91]⟩ : ByteArray) ++ n ++ (⟨#[93]⟩ : ByteArray)).size ≠ 0 := by rw [ByteArray.size_append]; show _ + 1 ≠ 0; omega
    refine rms_beh ?_ _ t hg hz
    rw [bl_app, bl_app]
    exact ((quiet_bytes (by decide)).app (quiet_name hn)).app (quiet_bytes (by decide))
  · unfold otherS behS remT
    rw [if_neg h91]
    split
    · rfl
    · rw [if_pos (show (⟨#[]⟩ : ByteArray).size = 0 from rfl)]
      have : rmLine (trimS (rmk t.rem)) = some (trimS (rmk t.rem)) := rmLine_some (s := trimS (rmk t.rem)) (R := trimS (rmk t.rem)) (l := []) (List.nil_append _).symm (scan_trim hg.rem)
      unfold rmsOf
      simp [this]
theorem rms_lay {fn : Int → ByteArray} (hf : FnOk fn) (wd : Nat) : ∀ (l : List It) (o : Option Nat), (∀ t ∈ l, GoodIt t) → rmsOf (layR (flatV fn) wd o l) = l.flatMap remT
  | [], o, _ => rfl
  | t :: r, o, hg => by
    have hgr : ∀ u ∈ r, GoodIt u := fun u hu => hg u (by simp [hu])
    rw [List.flatMap_cons]
    unfold layR
    by_cases hk : t.k = 61
    · rw [if_pos hk, rms_app, rms_pair hf wd _ (hg t (by simp)) hk, rms_lay hf wd r _ hgr]
    · rw [if_neg hk, rms_cons, rms_other (hg t (by simp)) hk, rms_lay hf wd r _ hgr]
theorem remT_empty {t : It} (h : emptyB t = true) : remT t = [] := by
  unfold emptyB at h
  simp only [Bool.and_eq_true, Bool.not_eq_true', decide_eq_false_iff_not, ne_eq, Decidable.not_not] at h
  unfold remT
  rw [if_pos h.2]
theorem rem_spaced : ∀ (l : List It) (x : List It × Bool), (l.foldl spStep x).1.flatMap remT = x.1.flatMap remT ++ l.flatMap remT
  | [], x => by simp
  | t :: l, x => by
    rw [List.foldl_cons, rem_spaced l, List.flatMap_cons]
    have : (spStep x t).1.flatMap remT = x.1.flatMap remT ++ remT t := by
      unfold spStep
      split
      · rename_i h; rw [remT_empty h, List.append_nil]
      · cases hl : x.1.getLast? with
        | none =>
          have : x.1 = [] := List.getLast?_eq_none_iff.1 hl
          simp [this]
        | some a =>
          simp only
          split
          · simp [remT_empty (t := blankIt) rfl]
          · simp
    rw [this, List.append_assoc]
/-- The remarks of a made text. -/
def rmI (i : Nat) (c : Int) : List ByteArray := (if hk c = 2 then [⟨#[35, 32, 114]⟩ ++ dgtB i] else []) ++ (if rk c = true then [⟨#[35, 32, 115]⟩ ++ dgtB i] else [])
def rml (raw : List Int) : Nat → List ByteArray
  | 0 => []
  | k + 1 => rml raw k ++ rmI k (rw_ raw k)
theorem trim_rO : ∀ i, i < 20 → trimS (rmk (⟨#[35, 114]⟩ ++ dgtB i ++ ⟨#[32, 9]⟩)) = ⟨#[35, 32, 114]⟩ ++ dgtB i := by decide +kernel
theorem trim_sO : ∀ i, i < 20 → trimS (rmk (⟨#[35, 115]⟩ ++ dgtB i ++ ⟨#[32, 32, 32]⟩)) = ⟨#[35, 32, 115]⟩ ++ dgtB i := by decide +kernel
theorem rem_step {i : Nat} (hi : i < 20) (tab : List ByteArray) (c : Int) : (hiO i c ++ [pIt tab i c (rmO i c)]).flatMap remT = rmI i c := by
  rw [List.flatMap_append]
  unfold rmI
  congr 1
  · unfold hiO
    by_cases h0 : hk c = 0
    · rw [if_pos h0, if_neg (by omega)]; rfl
    · rw [if_neg h0]
      by_cases h1 : hk c = 1
      · rw [if_pos h1, if_neg (by omega)]; rfl
      · rw [if_neg h1]
        split
        · have hn := app_ne (⟨#[35, 114]⟩ ++ dgtB i) ⟨#[32, 9]⟩ (app_ne ⟨#[35, 114]⟩ (dgtB i) (by decide))
          show remT (rIt _) ++ [] = _
          rw [List.append_nil]
          unfold remT rIt
          simp only
          rw [if_neg hn, trim_rO i hi]
        · rfl
  · show remT (pIt tab i c (rmO i c)) ++ [] = _
    rw [List.append_nil]
    unfold remT pIt rmO
    simp only
    by_cases hr : rk c = true
    · have hn := app_ne (⟨#[35, 115]⟩ ++ dgtB i) ⟨#[32, 32, 32]⟩ (app_ne ⟨#[35, 115]⟩ (dgtB i) (by decide))
      rw [if_pos hr, if_pos hr, if_neg hn, trim_sO i hi]
    · rw [if_neg hr, if_neg hr]
      rfl
theorem rem_itO (raw : List Int) : ∀ k, k ≤ 20 → (itO raw k).flatMap remT = rml raw k
  | 0, _ => rfl
  | k + 1, h => by
    unfold itO rml
    rw [List.flatMap_append, rem_itO raw k (by omega), rem_step (by omega)]
theorem rms_laid {fn : Int → ByteArray} (hf : FnOk fn) (wd : Nat) (raw : List Int) (k : Nat) (hk : k ≤ 20) : rmsOf (layOf (flatV fn) wd (itO raw k)) = rml raw k := by
  have hg : ∀ t ∈ spacedOf (itO raw k), GoodIt t := sp_mem good_blank (good_itO raw k hk) (by intro t ht; cases ht)
  rw [layOf_layR, rms_lay hf wd _ _ hg]
  unfold spacedOf
  rw [rem_spaced, rem_itO raw k hk]
  rfl
end Go.Proofs.YtdebjhdafnpfkabGreatDoor
