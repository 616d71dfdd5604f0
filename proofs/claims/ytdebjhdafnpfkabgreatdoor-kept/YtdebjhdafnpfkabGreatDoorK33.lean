import Derived.Test.YtdebjhdafnpfkabGreatDoorK32
namespace Go.Proofs.YtdebjhdafnpfkabGreatDoor
set_option linter.unusedVariables false
set_option linter.unusedSimpArgs false
/-- Values that made puts into its texts. -/
def Sc (v : V) : Prop := (∃ n : Int, -2000000 < n ∧ n < 2000000 ∧ v = numV n) ∨ (∃ b, v = boolV b) ∨ (∃ s : ByteArray, s.size ≤ 12 ∧ v = textV s)
def GoodV (v : V) : Prop := Sc v ∨ ∃ vs, v = listV vs ∧ vs.length ≤ 8 ∧ ∀ u ∈ vs, Sc u
/-- What is told of a number, whatever the library's table holds. -/
def FnOk (fn : Int → ByteArray) : Prop := ∀ n : Int, -2000000 < n → n < 2000000 → 0 < (fn n).size ∧ (fn n).size ≤ 20 ∧ ∀ c ∈ bl (fn n), 45 ≤ c
/-- A text that stands in a line: not empty, no end of a line in it, no blank at its end. -/
structure Ln (s : ByteArray) : Prop where
  ne : ∃ l c, bl s = l ++ [c] ∧ c ≠ 32
  nl : ∀ c ∈ bl s, c ≠ 10
theorem snoc_of {l : List Nat} (h : l ≠ []) : ∃ m c, l = m ++ [c] := ⟨l.dropLast, l.getLast h, (List.dropLast_concat_getLast h).symm⟩
theorem Ln.after {s t : ByteArray} (h : Ln t) (hs : ∀ c ∈ bl s, c ≠ 10) : Ln (s ++ t) := by
  obtain ⟨l, c, e, hc⟩ := h.ne
  refine ⟨⟨bl s ++ l, c, by rw [bl_app, e, List.append_assoc], hc⟩, fun d hd => ?_⟩
  rw [bl_app, List.mem_append] at hd
  exact hd.elim (hs d) (h.nl d)
theorem ln_lit (s : ByteArray) (l : List Nat) (c : Nat) (e : bl s = l ++ [c]) (hc : c ≠ 32) (h : (bl s).all (fun c => decide (c ≠ 10)) = true) : Ln s := ⟨⟨l, c, e, hc⟩, fun d hd => by simpa using List.all_eq_true.1 h d hd⟩
theorem ln_range {s : ByteArray} (h0 : 0 < s.size) (h : ∀ c ∈ bl s, 45 ≤ c) : Ln s := by
  obtain ⟨l, c, e⟩ := snoc_of (l := bl s) (by intro e; have := bl_len s; rw [e] at this; simp at this; omega)
  refine ⟨⟨l, c, e, ?_⟩, fun d hd => by have := h d hd; omega⟩
  have := h c (by rw [e]; simp)
  omega
theorem bl_arr (l : List UInt8) : bl ⟨l.toArray⟩ = l.map UInt8.toNat := rfl
theorem ln_quot (s : ByteArray) : Ln (quotS s) := by
  unfold quotS
  refine ⟨⟨34 :: (s.data.toList.flatMap escS).map UInt8.toNat, 34, by rw [bl_arr]; simp, by decide⟩, fun d hd => ?_⟩
  rw [bl_arr] at hd
  simp only [List.map_append, List.mem_append, List.map_cons, List.map_nil, List.mem_singleton, List.mem_map, List.mem_flatMap] at hd
  rcases hd with (rfl | ⟨x, ⟨y, _, hx⟩, rfl⟩) | rfl
  · decide
  · unfold escS at hx
    split at hx
    · rename_i h
      simp only [List.mem_cons, List.not_mem_nil, or_false] at hx
      rcases hx with rfl | rfl
      · decide
      · rcases h with rfl | rfl <;> decide
    · split at hx
      · simp only [List.mem_cons, List.not_mem_nil, or_false] at hx
        rcases hx with rfl | rfl <;> decide
      · split at hx
        · simp only [List.mem_cons, List.not_mem_nil, or_false] at hx
          rcases hx with rfl | rfl <;> decide
        · rename_i h _
          simp only [List.mem_cons, List.not_mem_nil, or_false] at hx
          subst hx
          intro e
          exact h (UInt8.toNat_inj.1 e)
  · decide
theorem ln_flat1 {fn : Int → ByteArray} (hf : FnOk fn) {v : V} (h : Sc v) : Ln (flat1 fn v) := by
  rcases h with ⟨n, h1, h2, rfl⟩ | ⟨b, rfl⟩ | ⟨s, _, rfl⟩
  · exact ln_range (hf n h1 h2).1 (hf n h1 h2).2.2
  · unfold flat1 boolV
    cases b
    · exact ln_lit falseS [102, 97, 108, 115] 101 rfl (by decide) (by decide)
    · exact ln_lit trueS [116, 114, 117] 101 rfl (by decide) (by decide)
  · exact ln_quot s
theorem bl_join : ∀ (outs : List ByteArray), bl (joinS outs) = ([44, 32] : List Nat).intercalate (outs.map bl) := by
  intro outs
  unfold joinS
  rw [bl_arr]
  have key : ∀ (ls : List (List UInt8)), (([44, 32] : List UInt8).intercalate ls).map UInt8.toNat = ([44, 32] : List Nat).intercalate (ls.map (·.map UInt8.toNat)) := by
    intro ls
    unfold List.intercalate
    rw [List.map_flatten]
    congr 1
    induction ls with
    | nil => rfl
    | cons a ls ih =>
      cases ls with
      | nil => rfl
      | cons b ls =>
        simp only [List.intersperse, List.map_cons] at ih ⊢
        rw [ih]
        rfl
  rw [key, List.map_map]
  rfl
theorem mem_inter {sep : List Nat} : ∀ {ls : List (List Nat)} {c : Nat}, c ∈ sep.intercalate ls → c ∈ sep ∨ ∃ l ∈ ls, c ∈ l := by
  intro ls c h
  unfold List.intercalate at h
  rw [List.mem_flatten] at h
  obtain ⟨l, hl, hc⟩ := h
  have key : ∀ (ls : List (List Nat)) (l : List Nat), l ∈ List.intersperse sep ls → l = sep ∨ l ∈ ls := by
    intro ls
    induction ls with
    | nil => intro l h; simp [List.intersperse] at h
    | cons a ls ih =>
      intro l h
      cases ls with
      | nil => simp [List.intersperse] at h; exact .inr (by simp [h])
      | cons b ls =>
        simp only [List.intersperse, List.mem_cons] at h
        rcases h with rfl | rfl | h
        · exact .inr (by simp)
        · exact .inl rfl
        · rcases ih l (by simpa [List.intersperse] using h) with h | h
          · exact .inl h
          · exact .inr (by simp only [List.mem_cons] at h ⊢; exact .inr h)
  rcases key ls l hl with rfl | h
  · exact .inl hc
  · exact .inr ⟨l, h, hc⟩
theorem ln_flat {fn : Int → ByteArray} (hf : FnOk fn) {v : V} (h : GoodV v) : Ln (flatV fn v) := by
  unfold flatV
  rcases h with h | ⟨vs, rfl, _, hvs⟩
  · rw [if_neg (by rcases h with ⟨n, _, _, rfl⟩ | ⟨b, rfl⟩ | ⟨s, _, rfl⟩ <;> simp [numV, boolV, textV])]
    exact ln_flat1 hf h
  · rw [if_pos (show (listV vs).k = 108 from rfl)]
    unfold listS
    refine Ln.after (ln_lit ⟨#[93]⟩ [] 93 rfl (by decide) (by decide)) (fun c hc => ?_)
    rw [bl_app, bl_join, List.mem_append] at hc
    rcases hc with hc | hc
    · have : c = 91 := by simpa [show bl (⟨#[91]⟩ : ByteArray) = [91] from rfl] using hc
      omega
    · rcases mem_inter hc with hc | ⟨l, hl, hc⟩
      · simp only [List.mem_cons, List.not_mem_nil, or_false] at hc
        omega
      · simp only [List.mem_map, List.map_map] at hl
        obtain ⟨x, hx, rfl⟩ := hl
        exact (ln_flat1 hf (hvs x hx)).nl c hc
/-- Remarks. -/
theorem cut_form (r : ByteArray) : ∃ t, bl r = bl (cutR r) ++ t ∧ (bl (cutR r) = [] ∨ ∃ l c, bl (cutR r) = l ++ [c] ∧ c ≠ 32) := by
  have hd : ∀ (l : List UInt8), ∃ t, l = t ++ l.dropWhile (([32, 9] : List UInt8).contains ·) := fun l => ⟨l.takeWhile (([32, 9] : List UInt8).contains ·), (List.takeWhile_append_dropWhile).symm⟩
  obtain ⟨t, ht⟩ := hd r.data.toList.reverse
  have e0 : bl (cutR r) = ((r.data.toList.reverse.dropWhile (([32, 9] : List UInt8).contains ·)).reverse).map UInt8.toNat := rfl
  refine ⟨t.reverse.map UInt8.toNat, ?_, ?_⟩
  · rw [e0, ← List.map_append, ← List.reverse_append, ← ht, List.reverse_reverse]
    rfl
  · rw [e0]
    cases hk : r.data.toList.reverse.dropWhile (([32, 9] : List UInt8).contains ·) with
    | nil => exact .inl rfl
    | cons x m =>
      refine .inr ⟨m.reverse.map UInt8.toNat, x.toNat, by simp, ?_⟩
      have hx : (([32, 9] : List UInt8).contains x) = false := by
        have := List.head?_dropWhile_not (([32, 9] : List UInt8).contains ·) r.data.toList.reverse
        rw [hk] at this
        simpa using this
      intro e
      have : x = 32 := UInt8.toNat_inj.1 e
      subst this
      exact absurd hx (by decide)
theorem ln_trim {r : ByteArray} (h : ∀ c ∈ bl r, c ≠ 10) : Ln (trimS r) ∧ (bl (trimS r)).head? = some 35 := by
  obtain ⟨t, e, hc⟩ := cut_form r
  have hn : ∀ c ∈ bl (cutR r), c ≠ 10 := fun c hc => h c (by rw [e]; simp [hc])
  unfold trimS
  have key : ∀ (s : ByteArray) (l : List Nat), bl s = 35 :: l → (∀ c ∈ bl s, c ≠ 10) → (bl (cutR r) = [] → ∃ m c, bl s = m ++ [c] ∧ c ≠ 32) → Ln (s ++ cutR r) ∧ (bl (s ++ cutR r)).head? = some 35 := by
    intro s l es hs h0
    refine ⟨?_, by rw [bl_app, es]; rfl⟩
    rcases hc with hc | ⟨m, c, hm, hc⟩
    · obtain ⟨m, c, hm, hc2⟩ := h0 hc
      exact ⟨⟨m, c, by rw [bl_app, hc, List.append_nil, hm], hc2⟩, fun d hd => by rw [bl_app, hc, List.append_nil] at hd; exact hs d hd⟩
    · exact Ln.after ⟨⟨m, c, hm, hc⟩, hn⟩ hs
  split
  · exact key ⟨#[35]⟩ [] rfl (by decide) (fun _ => ⟨[], 35, rfl, by decide⟩)
  · rename_i hz
    refine key ⟨#[35, 32]⟩ [32] rfl (by decide) (fun h0 => ?_)
    exfalso
    apply hz
    left
    rw [← bl_len, h0]
    rfl
/-- A line of a text, as it is laid out. -/
structure GoodIt (t : It) : Prop where
  rem : ∀ c ∈ bl (rmk t.rem), c ≠ 10
  pair : t.k = 61 → GoodV t.v
  path : t.k = 61 ∨ t.k = 91 → ∃ n, NmOk n ∧ t.path = [n]
  kind : t.k = 61 ∨ t.k = 91 ∨ t.k = 32 ∨ t.k = 35
theorem rmk_nl {R : ByteArray} (h : RemOk R) : ∀ c ∈ bl (rmk R), c ≠ 10 := by
  intro c hc
  unfold rmk at hc
  rcases h with rfl | ⟨m, e, hm⟩
  · have h0 : (⟨#[]⟩ : ByteArray).extract 1 (⟨#[]⟩ : ByteArray).size = ⟨#[]⟩ := by decide
    rw [h0] at hc
    cases hc
  · have hs : R.size = m.length + 1 := by rw [← bl_len, e]; rfl
    rw [bl_ext _ _ _ (Nat.le_refl _) (by omega), e] at hc
    exact hm c (List.mem_of_mem_take (by simpa using hc))
theorem good_bIt : GoodIt bIt := ⟨rmk_nl (.inl rfl), fun h => (by cases h), fun h => (by rcases h with h | h <;> cases h), .inr (.inr (.inl rfl))⟩
theorem good_hIt {i : Nat} (hi : i < 20) : GoodIt (hIt i) := ⟨rmk_nl (.inl rfl), fun h => (by cases h), fun _ => ⟨tbB i, tb_ok i hi, rfl⟩, .inr (.inl rfl)⟩
theorem good_rIt {R : ByteArray} (h : RemOk R) : GoodIt (rIt R) := ⟨rmk_nl h, fun h => (by cases h), fun h => (by rcases h with h | h <;> cases h), .inr (.inr (.inr rfl))⟩
theorem wx_size : ∀ k, k < 12 → (wx k).size = 1 := by decide +kernel
theorem wLoop_size : ∀ (f c : Nat) (s w : ByteArray), (wLoop f c s w).1.size ≤ s.size + f
  | 0, c, s, w => Nat.le_refl _
  | f + 1, c, s, w => by
    unfold wLoop
    split
    · show s.size ≤ _; omega
    · have h := wLoop_size f (c / 12) (s ++ wx (c % 12)) (w ++ wes (c % 12))
      rw [ByteArray.size_append, wx_size _ (Nat.mod_lt _ (by decide))] at h
      omega
theorem sc_one (k : Nat) (c : Int) : Sc (oneV k c) := by
  have hn := numN_lt c
  unfold oneV
  split
  · refine .inl ⟨_, ?_, ?_, rfl⟩
    · split <;> omega
    · split <;> omega
  · split
    · exact .inr (.inl ⟨_, rfl⟩)
    · refine .inr (.inr ⟨_, ?_, rfl⟩)
      have := wLoop_size 12 (pk c 1099511627776) ⟨#[]⟩ ⟨#[34]⟩
      show (wLoop 12 (pk c 1099511627776) ⟨#[]⟩ ⟨#[34]⟩).1.size ≤ 12
      have e : (⟨#[]⟩ : ByteArray).size = 0 := rfl
      omega
theorem good_th (c : Int) : GoodV (thV c) := by
  unfold thV
  split
  · refine .inr ⟨_, rfl, ?_, ?_⟩
    · rw [List.length_map, List.length_range]
      have := pk_lt (c.tdiv 9) 9 (by decide)
      unfold thN
      omega
    · intro u hu
      rw [List.mem_map] at hu
      obtain ⟨i, _, rfl⟩ := hu
      exact sc_one _ _
  · exact .inl (sc_one _ _)
theorem good_pIt {i : Nat} (hi : i < 20) (tab : List ByteArray) (c : Int) {R : ByteArray} (h : RemOk R) : GoodIt (pIt tab i c R) := ⟨rmk_nl h, fun _ => good_th _, fun _ => ⟨nmB i c, mnm_ok i c hi, rfl⟩, .inl rfl⟩
theorem good_hiO {i : Nat} (hi : i < 20) (c : Int) : ∀ t ∈ hiO i c, GoodIt t := by
  unfold hiO
  intro t ht
  split at ht
  · simp only [List.mem_singleton] at ht; subst ht; exact good_hIt hi
  · split at ht
    · simp only [List.mem_cons, List.not_mem_nil, or_false, or_self] at ht; subst ht; exact good_bIt
    · split at ht
      · simp only [List.mem_singleton] at ht
        subst ht
        refine good_rIt (.inr ⟨114 :: (bl (dgtB i) ++ [32, 9]), by simp only [bl_app]; simp; rfl, fun d hd => ?_⟩)
        simp only [List.mem_cons, List.mem_append, List.mem_nil_iff, or_false] at hd
        rcases hd with rfl | hd | rfl | rfl
        · decide
        · exact dig_ne10 hi d hd
        · decide
        · decide
      · cases ht
theorem good_itO (raw : List Int) : ∀ k, k ≤ 20 → ∀ t ∈ itO raw k, GoodIt t
  | 0, _, t, ht => by cases ht
  | k + 1, h, t, ht => by
    unfold itO at ht
    rw [List.mem_append, List.mem_append, List.mem_singleton] at ht
    rcases ht with ht | ht | rfl
    · exact good_itO raw k (by omega) t ht
    · exact good_hiO (by omega) _ t ht
    · exact good_pIt (by omega) _ _ (remO_ok (by omega) _)
/-- The spaced lines. -/
theorem good_blank : GoodIt blankIt := good_bIt
theorem sp_mem {P : It → Prop} (hb : P blankIt) : ∀ {l : List It} {x : List It × Bool}, (∀ t ∈ l, P t) → (∀ t ∈ x.1, P t) → ∀ t ∈ (l.foldl spStep x).1, P t
  | [], x, _, hx => hx
  | a :: l, x, hl, hx => by
    refine sp_mem hb (l := l) (fun t ht => hl t (by simp [ht])) ?_
    intro t ht
    have ha := hl a (by simp)
    unfold spStep at ht
    split at ht
    · exact hx t ht
    · split at ht
      · simp only [List.mem_singleton] at ht; subst ht; exact ha
      · split at ht
        · simp only [List.mem_append, List.mem_singleton] at ht
          rcases ht with (ht | rfl) | rfl
          · exact hx t ht
          · exact hb
          · exact ha
        · simp only [List.mem_append, List.mem_singleton] at ht
          rcases ht with ht | rfl
          · exact hx t ht
          · exact ha
/-- Where empty lines and headers may stand. -/
def SpOk : Option It → List It → Prop
  | a, [] => ∀ t, a = some t → emptyB t = false
  | a, t :: r => (emptyB t = true → ∃ b, a = some b ∧ emptyB b = false) ∧ (t.k = 91 → ∀ b, a = some b → bareB b = true) ∧ SpOk (some t) r
theorem SpOk.snoc {t : It} (ht : emptyB t = false) : ∀ {l : List It} {a : Option It}, SpOk a l → (∀ b, (l.getLast? <|> a) = some b → t.k = 91 → bareB b = true) → SpOk a (l ++ [t])
  | [], a, h, hh => ⟨fun e => (by rw [ht] at e; cases e), fun hk b hb => hh b (by simpa using hb) hk, fun u hu => by cases hu; exact ht⟩
  | u :: l, a, h, hh => by
    refine ⟨h.1, h.2.1, SpOk.snoc ht h.2.2 (fun b hb hk => hh b ?_ hk)⟩
    cases l with
    | nil => simpa using hb
    | cons v l =>
      have e1 : (u :: v :: l).getLast? = (v :: l).getLast? := by simp [List.getLast?_cons_cons]
      rw [e1]
      cases hv : (v :: l).getLast? with
      | none => simp at hv
      | some y => rw [hv] at hb; simpa using hb
end Go.Proofs.YtdebjhdafnpfkabGreatDoor
