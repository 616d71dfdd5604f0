import Derived.Test.YtdebjhdafnpfkaaGreatDoorB34
namespace Go.Proofs.YtdebjhdafnpfkaaGreatDoor
set_option linter.unusedVariables false
set_option linter.unusedSimpArgs false
/-- The layout, an entry at a time; o: the room of the block that it stands in. -/
def layR (fl : V → ByteArray) (wd : Nat) : Option Nat → List It → List ByteArray
  | _, [] => []
  | o, t :: r => if t.k = 61 then pLines fl wd (o.getD (roomOf (blockOf (t :: r)))) t ++ layR fl wd (some (o.getD (roomOf (blockOf (t :: r))))) r else otherS t :: layR fl wd none r
theorem block_cons_pos {t : It} {r : List It} (h : t.k = 61) : blockOf (t :: r) = t :: blockOf r := by unfold blockOf; rw [List.takeWhile_cons, if_pos (by simpa using h)]
theorem block_cons_neg {t : It} {r : List It} (h : t.k ≠ 61) : blockOf (t :: r) = [] := by unfold blockOf; rw [List.takeWhile_cons, if_neg (by simpa using h)]
theorem layR_some (fl : V → ByteArray) (wd R : Nat) : ∀ l : List It, layR fl wd (some R) l = ((blockOf l).map (pLines fl wd R)).flatten ++ layR fl wd none (l.drop (blockOf l).length)
  | [] => rfl
  | t :: r => by
    by_cases h : t.k = 61
    · rw [block_cons_pos h]
      unfold layR
      rw [if_pos h]
      simp only [Option.getD_some, List.map_cons, List.flatten_cons, List.length_cons, List.drop_succ_cons]
      rw [layR_some fl wd R r, List.append_assoc]
      cases hd : List.drop (blockOf r).length r with
      | nil => rfl
      | cons u s => simp only [layR]
    · rw [block_cons_neg h]
      show _ = layR fl wd none (t :: r)
      unfold layR
      rw [if_neg h, if_neg h]
theorem layR_none {fl : V → ByteArray} {wd : Nat} {l : List It} (h : blockOf l ≠ []) : layR fl wd none l = layR fl wd (some (roomOf (blockOf l))) l := by
  cases l with
  | nil => exact absurd rfl h
  | cons t r =>
    by_cases hk : t.k = 61
    · unfold layR
      rw [if_pos hk, if_pos hk]
      rfl
    · exact absurd (block_cons_neg hk) h
theorem layL_layR (fl : V → ByteArray) (wd : Nat) : ∀ (n : Nat) (l : List It), l.length < n → layL fl wd n l = layR fl wd none l
  | 0, l, h => absurd h (by omega)
  | n + 1, l, h => by
    unfold layL
    by_cases h0 : blockOf l = []
    · rw [if_pos h0]
      cases l with
      | nil => rfl
      | cons t r =>
        have hk : t.k ≠ 61 := fun hk => by rw [block_cons_pos hk] at h0; cases h0
        simp only
        rw [layL_layR fl wd n r (by simp at h; omega)]
        conv => rhs; unfold layR
        rw [if_neg hk]
    · rw [if_neg h0, layR_none h0, layR_some]
      have hp : 0 < (blockOf l).length := by cases hb : blockOf l with
        | nil => exact absurd hb h0
        | cons => simp
      have hq : (blockOf l).length ≤ l.length := (List.takeWhile_sublist _).length_le
      rw [layL_layR fl wd n _ (by rw [List.length_drop]; omega)]
      rfl
/-- Where the first sign of equality of a pair's line stands. -/
def sgnI (s : ByteArray) : Int := if s.size = 0 ∨ bt s 0 = 35 ∨ bt s 0 = 91 ∨ bt s 0 = 32 ∨ bt s 0 = 93 then -1 else if (bl s).findIdx (fun c => decide (c = 61)) < s.size then (bl s).findIdx (fun c => decide (c = 61)) else -1
theorem bt_head {s : ByteArray} {c : Nat} {l : List Nat} (e : bl s = c :: l) : bt s 0 = c ∧ s.size ≠ 0 := by
  have hs : s.size = l.length + 1 := by rw [← bl_len, e]; rfl
  refine ⟨?_, by omega⟩
  have := bl_get s 0 (by omega)
  rw [e] at this
  simpa using this.symm
theorem bt_last {s : ByteArray} {c : Nat} {l : List Nat} (e : bl s = l ++ [c]) : bt s (s.size - 1) = c ∧ s.size ≠ 0 := by
  have hs : s.size = l.length + 1 := by rw [← bl_len, e]; simp
  refine ⟨?_, by omega⟩
  have := bl_get s (s.size - 1) (by omega)
  rw [e, hs] at this
  simpa [hs] using this.symm
theorem sgn_off {s : ByteArray} {c : Nat} {l : List Nat} (e : bl s = c :: l) (hc : c = 35 ∨ c = 91 ∨ c = 32 ∨ c = 93) : sgnI s = -1 := by
  unfold sgnI
  rw [(bt_head e).1, if_pos (.inr hc)]
theorem sgn_at {s : ByteArray} {c : Nat} {l m r : List Nat} (e : bl s = m ++ 61 :: r) (em : m = c :: l) (hc : ¬ (c = 35 ∨ c = 91 ∨ c = 32 ∨ c = 93)) (hm : ∀ d ∈ m, d ≠ 61) : sgnI s = m.length := by
  have hb := bt_head (s := s) (c := c) (l := l ++ 61 :: r) (by rw [e, em]; rfl)
  have hs : s.size = m.length + (r.length + 1) := by rw [← bl_len, e]; simp
  have hf : (bl s).findIdx (fun c => decide (c = 61)) = m.length := by
    rw [e]
    clear e em hs hb
    induction m with
    | nil => simp [List.findIdx_cons]
    | cons d m ih =>
      rw [List.cons_append, List.findIdx_cons, decide_eq_false (hm d (by simp)), ih (fun x hx => hm x (by simp [hx]))]
      rfl
  unfold sgnI
  rw [hb.1, if_neg (by rintro (h | h); exact hb.2 h; exact hc h), hf, if_pos (by omega)]
/-- Two lines, one behind the other. -/
def StepOk (p : Option ByteArray) (l : ByteArray) : Prop :=
  (l.size = 0 → ∃ q, p = some q ∧ q.size ≠ 0) ∧ (l.size ≠ 0 → bt l (l.size - 1) ≠ 32 ∧ ∀ q, p = some q → (bt l 0 = 91 → q.size = 0 ∨ bt q 0 = 35) ∧ (0 ≤ sgnI q → 0 ≤ sgnI l → sgnI q = sgnI l))
def ChainOk : Option ByteArray → List ByteArray → Prop
  | p, [] => ∀ q, p = some q → q.size ≠ 0
  | p, l :: r => StepOk p l ∧ ChainOk (some l) r
/-- Kinds of lines. -/
def LnE (s : ByteArray) : Prop := s.size = 0
def LnO (s : ByteArray) : Prop := Ln s ∧ ∃ c l, bl s = c :: l ∧ (c = 35 ∨ c = 32 ∨ c = 93)
def LnH (s : ByteArray) : Prop := Ln s ∧ ∃ l, bl s = 91 :: l
def LnS (R : Nat) (s : ByteArray) : Prop := Ln s ∧ sgnI s = R + 1 ∧ ∃ c l, bl s = c :: l ∧ ¬ (c = 35 ∨ c = 91 ∨ c = 32 ∨ c = 93)
def LnR (s : ByteArray) : Prop := Ln s ∧ ∃ l, bl s = 35 :: l
theorem Ln.last {s : ByteArray} (h : Ln s) : s.size ≠ 0 ∧ bt s (s.size - 1) ≠ 32 := by
  obtain ⟨l, c, e, hc⟩ := h.ne
  have := bt_last e
  exact ⟨this.2, by rw [this.1]; exact hc⟩
theorem LnR.o {s : ByteArray} (h : LnR s) : LnO s := ⟨h.1, 35, h.2.choose, h.2.choose_spec, .inl rfl⟩
theorem LnO.sgn {s : ByteArray} (h : LnO s) : sgnI s = -1 := by
  obtain ⟨_, c, l, e, hc⟩ := h
  exact sgn_off e (by omega)
theorem LnH.sgn {s : ByteArray} (h : LnH s) : sgnI s = -1 := by
  obtain ⟨_, l, e⟩ := h
  exact sgn_off e (by omega)
theorem step_O {p : Option ByteArray} {s : ByteArray} (h : LnO s) : StepOk p s := by
  have hl := h.1.last
  refine ⟨fun e => absurd e hl.1, fun _ => ⟨hl.2, fun q hq => ⟨fun e => ?_, fun _ hs => ?_⟩⟩⟩
  · obtain ⟨_, c, l, e2, hc⟩ := h
    rw [(bt_head e2).1] at e
    omega
  · rw [h.sgn] at hs
    omega
theorem step_S {p : Option ByteArray} {s : ByteArray} {R : Nat} (h : LnS R s) (hp : ∀ q, p = some q → sgnI q = -1 ∨ LnS R q) : StepOk p s := by
  have hl := h.1.last
  refine ⟨fun e => absurd e hl.1, fun _ => ⟨hl.2, fun q hq => ⟨fun e => ?_, fun h0 hs => ?_⟩⟩⟩
  · obtain ⟨_, _, c, l, e2, hc⟩ := h
    rw [(bt_head e2).1] at e
    omega
  · rcases hp q hq with h1 | h1
    · omega
    · rw [h1.2.1, h.2.1]
theorem step_H {p : Option ByteArray} {s : ByteArray} (h : LnH s) (hp : ∀ q, p = some q → LnE q ∨ LnR q) : StepOk p s := by
  have hl := h.1.last
  refine ⟨fun e => absurd e hl.1, fun _ => ⟨hl.2, fun q hq => ⟨fun _ => ?_, fun _ hs => ?_⟩⟩⟩
  · rcases hp q hq with h1 | ⟨_, l, e⟩
    · exact .inl h1
    · exact .inr (bt_head e).1
  · rw [h.sgn] at hs
    omega
theorem step_E {p : Option ByteArray} {s : ByteArray} (h : LnE s) (hp : ∃ q, p = some q ∧ q.size ≠ 0) : StepOk p s := ⟨fun _ => hp, fun e => absurd h e⟩
theorem chain_O {R : Nat} {y : List ByteArray} (hy : ∀ q, LnS R q ∨ LnO q → ChainOk (some q) y) : ∀ (xs : List ByteArray) (p : ByteArray), (∀ x ∈ xs, LnO x) → (LnS R p ∨ LnO p) → ChainOk (some p) (xs ++ y)
  | [], p, _, hp => hy p hp
  | x :: xs, p, h, _ => ⟨step_O (h x (by simp)), chain_O hy xs x (fun z hz => h z (by simp [hz])) (.inr (h x (by simp)))⟩
theorem bl_sp (n : Nat) : bl (spS n) = List.replicate n 32 := by
  unfold spS
  rw [bl_arr, List.map_replicate]
  rfl
theorem start_form {R : Nat} {t : It} {n : ByteArray} (hn : NmOk n) (hp : t.path = [n]) (hR : n.size ≤ R) : ∃ m c l, bl (startS R t) = m ++ [61, 32] ∧ m = c :: l ∧ m.length = R + 1 ∧ ¬ (c = 35 ∨ c = 91 ∨ c = 32 ∨ c = 93) ∧ (∀ d ∈ m, d ≠ 61 ∧ d ≠ 10) := by
  obtain ⟨c, l, e, hc⟩ := hn.head
  refine ⟨bl n ++ List.replicate (R - n.size) 32 ++ [32], c, l ++ List.replicate (R - n.size) 32 ++ [32], ?_, by rw [e]; rfl, ?_, ?_, ?_⟩
  · unfold startS
    rw [hp]
    show bl (n ++ spS (R - n.size) ++ eqS) = _
    rw [bl_app, bl_app, bl_sp, show bl eqS = [32, 61, 32] from rfl]
    simp
  · rw [List.length_append, List.length_append, bl_len, List.length_replicate]
    simp only [List.length_cons, List.length_nil]
    omega
  · unfold letterB at hc
    simp at hc
    omega
  · intro d hd
    simp only [List.mem_append, List.mem_replicate, List.mem_singleton] at hd
    rcases hd with (hd | ⟨_, rfl⟩) | rfl
    · have := hn.let_ d hd
      unfold letterB at this
      simp at this
      omega
    · decide
    · decide
theorem lnS_of {R : Nat} {t : It} {n x : ByteArray} (hn : NmOk n) (hp : t.path = [n]) (hR : n.size ≤ R) (hx : Ln x) : LnS R (startS R t ++ x) := by
  obtain ⟨m, c, l, e, em, hl, hc, hm⟩ := start_form hn hp hR
  refine ⟨hx.after (fun d hd => ?_), ?_, c, l ++ [61, 32] ++ bl x, by rw [bl_app, e, em]; simp, hc⟩
  · rw [e] at hd
    simp only [List.mem_append, List.mem_cons, List.not_mem_nil, or_false] at hd
    rcases hd with hd | rfl | rfl
    · exact (hm d hd).2
    · decide
    · decide
  · rw [sgn_at (m := m) (r := 32 :: bl x) (by rw [bl_app, e]; simp) em hc (fun d hd => (hm d hd).1), hl]
    rfl
theorem beh_cases (s : ByteArray) (t : It) (hg : GoodIt t) (hs : s.size ≠ 0) : behS s t = ⟨#[]⟩ ∨ (Ln (behS s t)) := by
  unfold behS
  split
  · exact .inl rfl
  · exact .inr ((ln_trim hg.rem).1.after (by decide))
theorem start_pos (R : Nat) (t : It) : (startS R t).size ≠ 0 := by
  unfold startS
  rw [ByteArray.size_append]
  show _ + 3 ≠ 0
  omega
theorem ln_then {a b : ByteArray} (h : Ln a) (hb : b = ⟨#[]⟩ ∨ Ln b) : Ln (a ++ b) := by
  rcases hb with rfl | hb
  · rw [app_nil]; exact h
  · exact hb.after h.nl
/-- A pair's lines. -/
theorem pair_lines {fn : Int → ByteArray} (hf : FnOk fn) (wd : Nat) {R : Nat} {t : It} (hg : GoodIt t) (hk : t.k = 61) (hR : (jn t.path).size ≤ R) : ∃ x xs, pLines (flatV fn) wd R t = x :: xs ∧ LnS R x ∧ ∀ y ∈ xs, LnO y := by
  obtain ⟨n, hn, hp⟩ := hg.path (.inl hk)
  have hR' : n.size ≤ R := by rw [hp] at hR; exact hR
  have hv := hg.pair hk
  have hb := beh_cases (startS R t) t hg (start_pos R t)
  unfold pLines vLines
  split
  · refine ⟨_, [], rfl, ?_, fun y hy => by cases hy⟩
    rw [ByteArray.append_assoc]
    exact lnS_of hn hp hR' (ln_then (ln_flat hf hv) hb)
  · rename_i hc
    refine ⟨_, _, rfl, lnS_of hn hp hR' (ln_lit ⟨#[91]⟩ [] 91 rfl (by decide) (by decide)), fun y hy => ?_⟩
    have hy : y ∈ List.map (fun u => (⟨#[32, 32]⟩ : ByteArray) ++ flatV fn u ++ ⟨#[44]⟩) t.v.l ++ [(⟨#[]⟩ : ByteArray) ++ ⟨#[93]⟩ ++ behS (startS R t) t] := hy
    rw [List.mem_append, List.mem_map, List.mem_singleton] at hy
    have hl : ∃ vs, t.v = listV vs ∧ vs.length ≤ 8 ∧ ∀ u ∈ vs, Sc u := by
      rcases hv with h | h
      · exfalso
        apply hc
        left
        rcases h with ⟨n, _, _, e⟩ | ⟨b, e⟩ | ⟨s, _, e⟩ <;> rw [e] <;> simp [numV, boolV, textV]
      · exact h
    obtain ⟨vs, ev, _, hvs⟩ := hl
    rcases hy with ⟨u, hu, rfl⟩ | rfl
    · rw [ev] at hu
      have hlu := ln_flat1 hf (hvs u hu)
      have e1 : flatV fn u = flat1 fn u := by
        unfold flatV
        rw [if_neg]
        rcases hvs u hu with ⟨n, _, _, e⟩ | ⟨b, e⟩ | ⟨s, _, e⟩ <;> rw [e] <;> simp [numV, boolV, textV]
      rw [e1]
      refine ⟨Ln.after (ln_lit ⟨#[44]⟩ [] 44 rfl (by decide) (by decide)) (fun c hc => ?_), 32, 32 :: (bl (flat1 fn u) ++ [44]), by rw [bl_app, bl_app]; rfl, .inr (.inl rfl)⟩
      rw [bl_app, List.mem_append] at hc
      rcases hc with hc | hc
      · have : c = 32 := by simpa [show bl (⟨#[32, 32]⟩ : ByteArray) = [32, 32] from rfl] using hc
        omega
      · exact hlu.nl c hc
    · rw [nil_app]
      exact ⟨ln_then (ln_lit ⟨#[93]⟩ [] 93 rfl (by decide) (by decide)) hb, 93, bl (behS (startS R t) t), by rw [bl_app]; rfl, .inr (.inr rfl)⟩
theorem other_empty {t : It} (hk : t.k ≠ 91) (he : emptyB t = true) : LnE (otherS t) := by
  unfold emptyB at he
  simp only [Bool.and_eq_true, Bool.not_eq_true', decide_eq_false_iff_not, ne_eq, Decidable.not_not] at he
  unfold LnE otherS behS
  rw [if_neg hk, if_pos he.2]
  rfl
theorem other_remark {t : It} (hg : GoodIt t) (hk : t.k ≠ 91) (hk2 : t.k ≠ 61) (he : emptyB t = false) : LnR (otherS t) := by
  have hb : bareB t = true := by unfold bareB; have := hg.kind; simp; omega
  have hr : t.rem.size ≠ 0 := by
    intro e
    unfold emptyB at he
    rw [hb, decide_eq_false (fun q => q e)] at he
    cases he
  unfold otherS behS
  rw [if_neg hk, if_neg hr, if_pos (show (⟨#[]⟩ : ByteArray).size = 0 from rfl)]
  obtain ⟨h1, h2⟩ := ln_trim hg.rem
  refine ⟨h1, ?_⟩
  cases e : bl (trimS (rmk t.rem)) with
  | nil => rw [e] at h2; cases h2
  | cons c l => rw [e] at h2; simp at h2; exact ⟨l, by rw [h2]⟩
theorem other_head {t : It} (hg : GoodIt t) (hk : t.k = 91) : LnH (otherS t) := by
  obtain ⟨n, hn, hp⟩ := hg.path (.inr hk)
  unfold otherS
  rw [if_pos hk, hp]
  show LnH ((⟨#[91]⟩ : ByteArray) ++ n ++ (⟨#[93]⟩ : ByteArray) ++ behS ((⟨#[91]⟩ : ByteArray) ++ n ++ (⟨#[93]⟩ : ByteArray)) t)
  have hb := beh_cases ((⟨#[91]⟩ : ByteArray) ++ n ++ (⟨#[93]⟩ : ByteArray)) t hg (by rw [ByteArray.size_append]; show _ + 1 ≠ 0; omega)
  refine ⟨ln_then (Ln.after (ln_lit ⟨#[93]⟩ [] 93 rfl (by decide) (by decide)) (fun c hc => ?_)) hb, bl n ++ [93] ++ bl (behS ((⟨#[91]⟩ : ByteArray) ++ n ++ (⟨#[93]⟩ : ByteArray)) t), ?_⟩
  · rw [bl_app, List.mem_append] at hc
    rcases hc with hc | hc
    · have : c = 91 := by simpa [show bl (⟨#[91]⟩ : ByteArray) = [91] from rfl] using hc
      omega
    · have := hn.let_ c hc
      exact (letter_ne this).1
  · rw [bl_app, bl_app, bl_app]
    rfl
/-- What the line ahead is. -/
def Prev (o : Option Nat) (a : Option It) (p : Option ByteArray) : Prop :=
  (a = none ∧ p = none ∧ o = none) ∨ ∃ t q, a = some t ∧ p = some q ∧
    ((∃ R, o = some R ∧ t.k = 61 ∧ (LnS R q ∨ LnO q)) ∨ (o = none ∧ t.k ≠ 61 ∧ ((t.k = 91 ∧ LnH q) ∨ (t.k ≠ 91 ∧ emptyB t = true ∧ LnE q) ∨ (t.k ≠ 91 ∧ emptyB t = false ∧ LnR q))))
theorem block_room {t : It} {r : List It} (h : t.k = 61) : (jn t.path).size ≤ roomOf (blockOf (t :: r)) := by
  have key : ∀ (l : List It) (n : Nat), n ≤ l.foldl (fun r t => max r (jn t.path).size) n := by
    intro l
    induction l with
    | nil => intro n; exact Nat.le_refl _
    | cons a l ih => intro n; exact Nat.le_trans (Nat.le_max_left _ _) (ih _)
  rw [block_cons_pos h]
  unfold roomOf
  rw [List.foldl_cons]
  exact Nat.le_trans (Nat.le_max_right _ _) (key _ _)
theorem chain_lay {fn : Int → ByteArray} (hf : FnOk fn) (wd : Nat) : ∀ (l : List It) (o : Option Nat) (a : Option It) (p : Option ByteArray), SpOk a l → (∀ t ∈ l, GoodIt t) → Prev o a p → (∀ R, o = some R → ∀ t ∈ blockOf l, (jn t.path).size ≤ R) → ChainOk p (layR (flatV fn) wd o l)
  | [], o, a, p, hs, hg, hp, _ => by
    intro q hq
    rcases hp with ⟨_, h, _⟩ | ⟨t, q', ha, hq', h⟩
    · rw [h] at hq; cases hq
    · rw [hq'] at hq
      cases hq
      have he := hs t ha
      rcases h with ⟨R, _, _, h | h⟩ | ⟨_, _, ⟨_, h⟩ | ⟨_, h, _⟩ | ⟨_, _, h⟩⟩
      · exact h.1.last.1
      · exact h.1.last.1
      · exact h.1.last.1
      · rw [h] at he; cases he
      · exact h.1.last.1
  | t :: r, o, a, p, hs, hg, hp, hR => by
    have hgt := hg t (by simp)
    have hgr : ∀ u ∈ r, GoodIt u := fun u hu => hg u (by simp [hu])
    unfold layR
    by_cases hk : t.k = 61
    · rw [if_pos hk]
      have hroom : (jn t.path).size ≤ o.getD (roomOf (blockOf (t :: r))) := by
        cases o with
        | none => exact block_room hk
        | some R => exact hR R rfl t (by rw [block_cons_pos hk]; simp)
      have hroom2 : ∀ u ∈ blockOf r, (jn u.path).size ≤ o.getD (roomOf (blockOf (t :: r))) := by
        intro u hu
        cases o with
        | none =>
          have key : ∀ (l : List It) (n : Nat) (u : It), u ∈ l → (jn u.path).size ≤ l.foldl (fun r t => max r (jn t.path).size) n := by
            have key0 : ∀ (l : List It) (n : Nat), n ≤ l.foldl (fun r t => max r (jn t.path).size) n := by
              intro l
              induction l with
              | nil => intro n; exact Nat.le_refl _
              | cons a l ih => intro n; exact Nat.le_trans (Nat.le_max_left _ _) (ih _)
            intro l
            induction l with
            | nil => intro n u hu; cases hu
            | cons a l ih =>
              intro n u hu
              rw [List.mem_cons] at hu
              rw [List.foldl_cons]
              rcases hu with rfl | hu
              · exact Nat.le_trans (Nat.le_max_right _ _) (key0 _ _)
              · exact ih _ u hu
          exact key _ 0 u (by rw [block_cons_pos hk]; simp [hu])
        | some R => exact hR R rfl u (by rw [block_cons_pos hk]; simp [hu])
      have hprev : ∀ q, p = some q → sgnI q = -1 ∨ LnS (o.getD (roomOf (blockOf (t :: r)))) q := by
        intro q hq
        rcases hp with ⟨_, h, _⟩ | ⟨u, q', ha, hq', h⟩
        · rw [h] at hq; cases hq
        · rw [hq'] at hq
          cases hq
          rcases h with ⟨R, ho, _, h | h⟩ | ⟨_, _, ⟨_, h⟩ | ⟨_, _, h⟩ | ⟨_, _, h⟩⟩
          · rw [ho]; exact .inr h
          · exact .inl h.sgn
          · exact .inl h.sgn
          · left
            unfold LnE at h
            unfold sgnI
            rw [if_pos (.inl h)]
          · exact .inl h.o.sgn
      generalize o.getD (roomOf (blockOf (t :: r))) = R at *
      obtain ⟨x, xs, e, hx, hxs⟩ := pair_lines hf wd hgt hk hroom
      rw [e]
      refine ⟨step_S hx hprev, chain_O (R := R) (fun q hq => ?_) xs x hxs (.inl hx)⟩
      exact chain_lay hf wd r (some R) (some t) (some q) hs.2.2 hgr (.inr ⟨t, q, rfl, rfl, .inl ⟨R, rfl, hk, hq⟩⟩) (fun R' e' u hu => by cases e'; exact hroom2 u hu)
    · rw [if_neg hk]
      have hno : ∀ R, (none : Option Nat) = some R → ∀ t ∈ blockOf r, (jn t.path).size ≤ R := fun R e => by cases e
      by_cases h91 : t.k = 91
      · refine ⟨step_H (other_head hgt h91) (fun q hq => ?_), chain_lay hf wd r none (some t) _ hs.2.2 hgr (.inr ⟨t, _, rfl, rfl, .inr ⟨rfl, hk, .inl ⟨h91, other_head hgt h91⟩⟩⟩) hno⟩
        rcases hp with ⟨_, h, _⟩ | ⟨u, q', ha, hq', h⟩
        · rw [h] at hq; cases hq
        · rw [hq'] at hq
          cases hq
          have hb := hs.2.1 h91 u ha
          unfold bareB at hb
          simp only [decide_eq_true_eq] at hb
          rcases h with ⟨R, _, h1, _⟩ | ⟨_, _, ⟨h1, _⟩ | ⟨_, _, h⟩ | ⟨_, _, h⟩⟩
          · omega
          · omega
          · exact .inl h
          · exact .inr h
      · by_cases he : emptyB t = true
        · refine ⟨step_E (other_empty h91 he) ?_, chain_lay hf wd r none (some t) _ hs.2.2 hgr (.inr ⟨t, _, rfl, rfl, .inr ⟨rfl, hk, .inr (.inl ⟨h91, he, other_empty h91 he⟩)⟩⟩) hno⟩
          obtain ⟨b, hb, hbe⟩ := hs.1 he
          rcases hp with ⟨h, _, _⟩ | ⟨u, q', ha, hq', h⟩
          · rw [h] at hb; cases hb
          · rw [ha] at hb
            cases hb
            refine ⟨q', hq', ?_⟩
            rcases h with ⟨R, _, _, h | h⟩ | ⟨_, _, ⟨_, h⟩ | ⟨_, h, _⟩ | ⟨_, _, h⟩⟩
            · exact h.1.last.1
            · exact h.1.last.1
            · exact h.1.last.1
            · rw [h] at hbe; cases hbe
            · exact h.1.last.1
        · have he' : emptyB t = false := by simpa using he
          exact ⟨step_O (other_remark hgt h91 hk he').o, chain_lay hf wd r none (some t) _ hs.2.2 hgr (.inr ⟨t, _, rfl, rfl, .inr ⟨rfl, hk, .inr (.inr ⟨h91, he', other_remark hgt h91 hk he'⟩)⟩⟩) hno⟩
theorem layOf_layR (fl : V → ByteArray) (wd : Nat) (items : List It) : layOf fl wd items = layR fl wd none (spacedOf items) := layL_layR fl wd _ _ (by omega)
/-- Laid out, a made text keeps what Below asks. -/
theorem chain_made {fn : Int → ByteArray} (hf : FnOk fn) (wd : Nat) (raw : List Int) (k : Nat) (hk : k ≤ 20) : ChainOk none (layOf (flatV fn) wd (itO raw k)) := by
  rw [layOf_layR]
  refine chain_lay hf wd _ none none none (sp_ok _ _ (by intro t ht; cases ht)) ?_ (.inl ⟨rfl, rfl, rfl⟩) (fun R e => by cases e)
  exact sp_mem good_blank (good_itO raw k hk) (by intro t ht; cases ht)
end Go.Proofs.YtdebjhdafnpfkaaGreatDoor
