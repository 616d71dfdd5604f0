import Derived.Test.YtdebjhdafnpfkaaGreatDoorS28
import Derived.Test.YtdebjhdafnpfkaaGreatDoorS02
import Derived.Test.YtdebjhdafnpfkaaGreatDoorS21
namespace Go.Proofs.YtdebjhdafnpfkaaGreatDoor
set_option linter.unusedVariables false
set_option linter.unusedSimpArgs false
/-- A line, its remark as it is laid out. -/
def nrm (t : It) : It := ⟨t.k, t.path, t.full, t.v, if t.rem.size = 0 then ⟨#[]⟩ else ⟨#[35]⟩ ++ trimS (rmk t.rem)⟩
theorem nrm_parts {t u : It} (h : nrm t = nrm u) : t.k = u.k ∧ t.path = u.path ∧ t.full = u.full ∧ t.v = u.v ∧ (t.rem.size = 0 ↔ u.rem.size = 0) ∧ ∀ s, behS s t = behS s u := by
  unfold nrm at h
  injection h with h1 h2 h3 h4 h5
  refine ⟨h1, h2, h3, h4, ?_, ?_⟩
  · by_cases a : t.rem.size = 0 <;> by_cases b : u.rem.size = 0
    · simp [a, b]
    · rw [if_pos a, if_neg b] at h5
      have := congrArg ByteArray.size h5
      rw [ByteArray.size_append] at this
      exact absurd this (by show ¬ (0 = 1 + _); omega)
    · rw [if_neg a, if_pos b] at h5
      have := congrArg ByteArray.size h5
      rw [ByteArray.size_append] at this
      exact absurd this (by show ¬ (1 + _ = 0); omega)
    · simp [a, b]
  · intro s
    unfold behS
    by_cases a : t.rem.size = 0 <;> by_cases b : u.rem.size = 0
    · rw [if_pos a, if_pos b]
    · rw [if_pos a, if_neg b] at h5
      have := congrArg ByteArray.size h5
      rw [ByteArray.size_append] at this
      exact absurd this (by show ¬ (0 = 1 + _); omega)
    · rw [if_neg a, if_pos b] at h5
      have := congrArg ByteArray.size h5
      rw [ByteArray.size_append] at this
      exact absurd this (by show ¬ (1 + _ = 0); omega)
    · rw [if_neg a, if_neg b] at h5 ⊢
      have h6 : trimS (rmk t.rem) = trimS (rmk u.rem) := by
        apply bl_inj
        have := congrArg bl h5
        rw [bl_app, bl_app] at this
        exact List.append_cancel_left this
      rw [h6]
theorem nrm_empty {t u : It} (h : nrm t = nrm u) : emptyB t = emptyB u := by
  obtain ⟨h1, _, _, _, h5, _⟩ := nrm_parts h
  unfold emptyB bareB
  rw [h1]
  by_cases a : t.rem.size = 0
  · rw [decide_eq_false (fun q : t.rem.size ≠ 0 => q a), decide_eq_false (fun q : u.rem.size ≠ 0 => q (h5.1 a))]
  · rw [decide_eq_true (p := t.rem.size ≠ 0) a, decide_eq_true (p := u.rem.size ≠ 0) (fun b => a (h5.2 b))]
theorem nrm_parted {a b t u : It} (h : nrm t = nrm u) (h' : nrm a = nrm b) : partedB a t = partedB b u := by
  unfold partedB bareB
  rw [(nrm_parts h).1, (nrm_parts h').1]
theorem nrm_last : ∀ {l m : List It}, l.map nrm = m.map nrm → l.getLast?.map nrm = m.getLast?.map nrm := by
  intro l m h
  rw [← List.getLast?_map, ← List.getLast?_map, h]
theorem sp_nrm {x y : List It × Bool} (hx : x.1.map nrm = y.1.map nrm) (hg : x.2 = y.2) {t u : It} (h : nrm t = nrm u) : (spStep x t).1.map nrm = (spStep y u).1.map nrm ∧ (spStep x t).2 = (spStep y u).2 := by
  have hl := nrm_last hx
  unfold spStep
  rw [nrm_empty h]
  split
  · exact ⟨hx, rfl⟩
  · cases hxl : x.1.getLast? with
    | none =>
      cases hyl : y.1.getLast? with
      | none => simp [h]
      | some b => rw [hxl, hyl] at hl; cases hl
    | some a =>
      cases hyl : y.1.getLast? with
      | none => rw [hxl, hyl] at hl; cases hl
      | some b =>
        rw [hxl, hyl] at hl
        have hab : nrm a = nrm b := Option.some.inj hl
        simp only
        rw [nrm_parted h hab, hg]
        split
        · simp [hx, h]
        · simp [hx, h]
theorem step_blank (x : List It × Bool) : spStep x bIt = (x.1, true) := by unfold spStep; rw [if_pos (by decide)]
theorem trim_r : ∀ i, i < 20 → trimS (rmk (⟨#[35, 32, 114]⟩ ++ dgtB i)) = trimS (rmk (⟨#[35, 114]⟩ ++ dgtB i ++ ⟨#[32, 9]⟩)) := by decide +kernel
theorem trim_s : ∀ i, i < 20 → trimS (rmk (⟨#[35, 32, 115]⟩ ++ dgtB i)) = trimS (rmk (⟨#[35, 115]⟩ ++ dgtB i ++ ⟨#[32, 32, 32]⟩)) := by decide +kernel
theorem nrm_rem {k : Nat} {p f : List ByteArray} {v : V} {r s : ByteArray} (h0 : r.size ≠ 0) (h1 : s.size ≠ 0) (h : trimS (rmk r) = trimS (rmk s)) : nrm ⟨k, p, f, v, r⟩ = nrm ⟨k, p, f, v, s⟩ := by
  unfold nrm
  simp only [if_neg h0, if_neg h1, h]
theorem app_ne (a b : ByteArray) (h : a.size ≠ 0) : (a ++ b).size ≠ 0 := by rw [ByteArray.size_append]; omega
theorem nrm_rIt {i : Nat} (hi : i < 20) : nrm (rIt (⟨#[35, 32, 114]⟩ ++ dgtB i)) = nrm (rIt (⟨#[35, 114]⟩ ++ dgtB i ++ ⟨#[32, 9]⟩)) := by
  have h1 := app_ne ⟨#[35, 32, 114]⟩ (dgtB i) (by decide)
  have h2 := app_ne (⟨#[35, 114]⟩ ++ dgtB i) ⟨#[32, 9]⟩ (app_ne ⟨#[35, 114]⟩ (dgtB i) (by decide))
  exact nrm_rem h1 h2 (trim_r i hi)
theorem nrm_head {i : Nat} (hi : i < 20) (c : Int) {x y : List It × Bool} (hx : x.1.map nrm = y.1.map nrm) (hg : x.2 = y.2) :
    ((hiP i c).foldl spStep x).1.map nrm = ((hiO i c).foldl spStep y).1.map nrm ∧ ((hiP i c).foldl spStep x).2 = ((hiO i c).foldl spStep y).2 := by
  unfold hiP hiO
  split
  · exact sp_nrm (t := hIt i) (u := hIt i) hx hg rfl
  · split
    · show (spStep x bIt).1.map nrm = (spStep (spStep y bIt) bIt).1.map nrm ∧ (spStep x bIt).2 = (spStep (spStep y bIt) bIt).2
      rw [step_blank, step_blank, step_blank]
      exact ⟨hx, rfl⟩
    · split
      · exact sp_nrm (t := rIt (⟨#[35, 32, 114]⟩ ++ dgtB i)) (u := rIt (⟨#[35, 114]⟩ ++ dgtB i ++ ⟨#[32, 9]⟩)) hx hg (nrm_rIt hi)
      · exact ⟨hx, hg⟩
theorem nrm_pair {i : Nat} (hi : i < 20) (tab : List ByteArray) (c : Int) : nrm (pIt tab i c (rmP i c)) = nrm (pIt tab i c (rmO i c)) := by
  unfold rmP rmO
  split
  · have h1 := app_ne ⟨#[35, 32, 115]⟩ (dgtB i) (by decide)
    have h2 := app_ne (⟨#[35, 115]⟩ ++ dgtB i) ⟨#[32, 32, 32]⟩ (app_ne ⟨#[35, 115]⟩ (dgtB i) (by decide))
    exact nrm_rem h1 h2 (trim_s i hi)
  · rfl
theorem spaced_nrm (raw : List Int) : ∀ k, k ≤ 20 → ((itP raw k).foldl spStep ([], false)).1.map nrm = ((itO raw k).foldl spStep ([], false)).1.map nrm ∧ ((itP raw k).foldl spStep ([], false)).2 = ((itO raw k).foldl spStep ([], false)).2
  | 0, _ => ⟨rfl, rfl⟩
  | k + 1, h => by
    obtain ⟨h1, h2⟩ := spaced_nrm raw k (by omega)
    unfold itP itO
    rw [List.foldl_append, List.foldl_append, List.foldl_append, List.foldl_append]
    obtain ⟨k1, k2⟩ := nrm_head (by omega : k < 20) (rw_ raw k) h1 h2
    exact sp_nrm k1 k2 (nrm_pair (by omega) _ _)
theorem block_nrm : ∀ {l m : List It}, l.map nrm = m.map nrm → (blockOf l).map nrm = (blockOf m).map nrm
  | [], [], _ => rfl
  | [], u :: m, h => by simp at h
  | t :: l, [], h => by simp at h
  | t :: l, u :: m, h => by
    simp only [List.map_cons, List.cons.injEq] at h
    unfold blockOf
    rw [List.takeWhile_cons, List.takeWhile_cons, (nrm_parts h.1).1]
    split
    · rw [List.map_cons, List.map_cons, h.1]
      exact congrArg _ (block_nrm h.2)
    · rfl
theorem room_nrm {l m : List It} (h : l.map nrm = m.map nrm) : roomOf l = roomOf m := by
  have key : ∀ {l m : List It} (r : Nat), l.map nrm = m.map nrm → l.foldl (fun r t => max r (jn t.path).size) r = m.foldl (fun r t => max r (jn t.path).size) r := by
    intro l
    induction l with
    | nil => intro m r h; cases m with
      | nil => rfl
      | cons u m => simp at h
    | cons t l ih => intro m r h; cases m with
      | nil => simp at h
      | cons u m =>
        simp only [List.map_cons, List.cons.injEq] at h
        simp only [List.foldl_cons]
        rw [(nrm_parts h.1).2.1]
        exact ih _ h.2
  exact key 0 h
theorem pLines_nrm {fl : V → ByteArray} {wd room : Nat} {t u : It} (h : nrm t = nrm u) : pLines fl wd room t = pLines fl wd room u := by
  obtain ⟨h1, h2, h3, h4, h5, h6⟩ := nrm_parts h
  have e : startS room t = startS room u := by unfold startS; rw [h2]
  unfold pLines
  rw [e, h4, h6]
theorem other_nrm {t u : It} (h : nrm t = nrm u) : otherS t = otherS u := by
  obtain ⟨h1, h2, h3, h4, h5, h6⟩ := nrm_parts h
  unfold otherS
  rw [h1, h2, h6, h6]
theorem bLines_nrm {fl : V → ByteArray} {wd : Nat} {l m : List It} (h : l.map nrm = m.map nrm) : bLines fl wd l = bLines fl wd m := by
  unfold bLines
  rw [room_nrm h]
  congr 1
  generalize roomOf m = r
  induction l generalizing m with
  | nil => cases m with
    | nil => rfl
    | cons u m => simp at h
  | cons t l ih => cases m with
    | nil => simp at h
    | cons u m =>
      simp only [List.map_cons, List.cons.injEq] at h ⊢
      exact ⟨pLines_nrm h.1, ih h.2⟩
theorem layL_nrm {fl : V → ByteArray} {wd : Nat} : ∀ (n : Nat) {l m : List It}, l.map nrm = m.map nrm → layL fl wd n l = layL fl wd n m
  | 0, l, m, _ => rfl
  | n + 1, l, m, h => by
    have hb := block_nrm h
    have hlen : (blockOf l).length = (blockOf m).length := by have := congrArg List.length hb; simpa using this
    unfold layL
    by_cases h0 : blockOf l = []
    · have h0' : blockOf m = [] := by apply List.eq_nil_of_length_eq_zero; rw [← hlen, h0]; rfl
      rw [if_pos h0, if_pos h0']
      cases l with
      | nil => cases m with
        | nil => rfl
        | cons u m => simp at h
      | cons t l => cases m with
        | nil => simp at h
        | cons u m =>
          simp only [List.map_cons, List.cons.injEq] at h
          simp only
          rw [other_nrm h.1, layL_nrm n h.2]
    · have h0' : blockOf m ≠ [] := by
        intro e
        apply h0
        apply List.eq_nil_of_length_eq_zero
        rw [hlen, e]
        rfl
      rw [if_neg h0, if_neg h0', bLines_nrm hb, hlen]
      congr 1
      apply layL_nrm n
      rw [List.map_drop, List.map_drop, h]
theorem lay_same (fl : V → ByteArray) (wd : Nat) (raw : List Int) (k : Nat) (hk : k ≤ 20) : layOf fl wd (itP raw k) = layOf fl wd (itO raw k) := by
  have h := (spaced_nrm raw k hk).1
  have hl : (spacedOf (itP raw k)).length = (spacedOf (itO raw k)).length := by have := congrArg List.length h; rw [List.length_map, List.length_map] at this; exact this
  unfold layOf
  rw [hl]
  exact layL_nrm _ h
/-- The paths. -/
def mkN (raw : List Int) : Nat → List ByteArray
  | 0 => []
  | k + 1 => mkN raw k ++ [jn (tabAt raw (k + 1) ++ [nmB k (rw_ raw k)])]
theorem paths_app (l m : List It) : pathsOf (l ++ m) = pathsOf l ++ pathsOf m := by unfold pathsOf pairsOf; rw [List.filter_append, List.map_append]
theorem paths_hiP (i : Nat) (c : Int) : pathsOf (hiP i c) = [] := by
  unfold hiP
  split
  · rfl
  · split
    · rfl
    · split <;> rfl
theorem paths_hiO (i : Nat) (c : Int) : pathsOf (hiO i c) = [] := by
  unfold hiO
  split
  · rfl
  · split
    · rfl
    · split <;> rfl
theorem paths_made (raw : List Int) : ∀ k, pathsOf (itP raw k) = mkN raw k ∧ pathsOf (itO raw k) = mkN raw k
  | 0 => ⟨rfl, rfl⟩
  | k + 1 => by
    obtain ⟨h1, h2⟩ := paths_made raw k
    unfold itP itO
    rw [paths_app, paths_app, paths_app, paths_app, paths_hiP, paths_hiO, h1, h2]
    exact ⟨rfl, rfl⟩
end Go.Proofs.YtdebjhdafnpfkaaGreatDoor

namespace Go.Proofs.YtdebjhdafnpfkaaGreatDoor
set_option linter.unusedVariables false
set_option linter.unusedSimpArgs false
/-- Values that made puts into its texts. -/
def Sc (v : V) : Prop := (∃ n : Int, -2000000 < n ∧ n < 2000000 ∧ v = numV n) ∨ (∃ b, v = boolV b) ∨ (∃ s : ByteArray, s.size ≤ 12 ∧ v = textV s)
def GoodV (v : V) : Prop := Sc v ∨ ∃ vs, v = listV vs ∧ vs.length ≤ 8 ∧ ∀ u ∈ vs, Sc u
/-- What is told of a number, whatever the library's table holds. -/
def FnOk (fn : Int → ByteArray) : Prop := ∀ n : Int, -2000000 < n → n < 2000000 → 0 < (fn n).size ∧ (fn n).size ≤ 20 ∧ ∀ c ∈ bl (fn n), 45 ≤ c
/-- A text that stands in a line: not empty, no end of a line in it, no blank at its end. -/
structure Ln (s : ByteArray) : Prop where
  ne : ∃ l c, bl s = l ++ [c] ∧ c ≠ 32
  nl : ∀ c ∈ bl s, c ≠ 10
theorem bl_arr (l : List UInt8) : bl ⟨l.toArray⟩ = l.map UInt8.toNat := rfl
theorem wx_size : ∀ k, k < 12 → (wx k).size = 1 := by decide +kernel
theorem wLoop_size : ∀ (f c : Nat) (s w : ByteArray), (wLoop f c s w).1.size ≤ s.size + f
  | 0, c, s, w => Nat.le_refl _
  | f + 1, c, s, w => by
    unfold wLoop
    split
    · show s.size ≤ _; omega
    · have h := wLoop_size f (c / 12) (s ++ wx (c % 12)) (w ++ wes (c % 12))
      rw [ByteArray.size_append, wx_size _ (Nat.mod_lt _ (by decide))] at h
      omega
theorem sc_one (k : Nat) (c : Int) : Sc (oneV k c) := by
  have hn := numN_lt c
  unfold oneV
  split
  · refine .inl ⟨_, ?_, ?_, rfl⟩
    · split <;> omega
    · split <;> omega
  · split
    · exact .inr (.inl ⟨_, rfl⟩)
    · refine .inr (.inr ⟨_, ?_, rfl⟩)
      have := wLoop_size 12 (pk c 1099511627776) ⟨#[]⟩ ⟨#[34]⟩
      show (wLoop 12 (pk c 1099511627776) ⟨#[]⟩ ⟨#[34]⟩).1.size ≤ 12
      have e : (⟨#[]⟩ : ByteArray).size = 0 := rfl
      omega
theorem good_th (c : Int) : GoodV (thV c) := by
  unfold thV
  split
  · refine .inr ⟨_, rfl, ?_, ?_⟩
    · rw [List.length_map, List.length_range]
      have := pk_lt (c.tdiv 9) 9 (by decide)
      unfold thN
      omega
    · intro u hu
      rw [List.mem_map] at hu
      obtain ⟨i, _, rfl⟩ := hu
      exact sc_one _ _
  · exact .inl (sc_one _ _)
theorem sp_mem {P : It → Prop} (hb : P blankIt) : ∀ {l : List It} {x : List It × Bool}, (∀ t ∈ l, P t) → (∀ t ∈ x.1, P t) → ∀ t ∈ (l.foldl spStep x).1, P t
  | [], x, _, hx => hx
  | a :: l, x, hl, hx => by
    refine sp_mem hb (l := l) (fun t ht => hl t (by simp [ht])) ?_
    intro t ht
    have ha := hl a (by simp)
    unfold spStep at ht
    split at ht
    · exact hx t ht
    · split at ht
      · simp only [List.mem_singleton] at ht; subst ht; exact ha
      · split at ht
        · simp only [List.mem_append, List.mem_singleton] at ht
          rcases ht with (ht | rfl) | rfl
          · exact hx t ht
          · exact hb
          · exact ha
        · simp only [List.mem_append, List.mem_singleton] at ht
          rcases ht with ht | rfl
          · exact hx t ht
          · exact ha
/-- Where empty lines and headers may stand. -/
def SpOk : Option It → List It → Prop
  | a, [] => ∀ t, a = some t → emptyB t = false
  | a, t :: r => (emptyB t = true → ∃ b, a = some b ∧ emptyB b = false) ∧ (t.k = 91 → ∀ b, a = some b → bareB b = true) ∧ SpOk (some t) r
theorem SpOk.snoc {t : It} (ht : emptyB t = false) : ∀ {l : List It} {a : Option It}, SpOk a l → (∀ b, (l.getLast? <|> a) = some b → t.k = 91 → bareB b = true) → SpOk a (l ++ [t])
  | [], a, h, hh => ⟨fun e => (by rw [ht] at e; cases e), fun hk b hb => hh b (by simpa using hb) hk, fun u hu => by cases hu; exact ht⟩
  | u :: l, a, h, hh => by
    refine ⟨h.1, h.2.1, SpOk.snoc ht h.2.2 (fun b hb hk => hh b ?_ hk)⟩
    cases l with
    | nil => simpa using hb
    | cons v l =>
      have e1 : (u :: v :: l).getLast? = (v :: l).getLast? := by simp [List.getLast?_cons_cons]
      rw [e1]
      cases hv : (v :: l).getLast? with
      | none => simp at hv
      | some y => rw [hv] at hb; simpa using hb
end Go.Proofs.YtdebjhdafnpfkaaGreatDoor
