import Derived.Test.YtdebjhdafnpfkabGreatDoorK02
namespace Go.Proofs.YtdebjhdafnpfkabGreatDoor
set_option linter.unusedVariables false
set_option linter.unusedSimpArgs false
/-- The bytes of a text, as numbers. -/
def bl (s : ByteArray) : List Nat := s.data.toList.map UInt8.toNat
theorem bl_len (s : ByteArray) : (bl s).length = s.size := by unfold bl; rw [List.length_map]; rfl
theorem bl_app (s t : ByteArray) : bl (s ++ t) = bl s ++ bl t := by unfold bl; rw [ByteArray.data_append, Array.toList_append, List.map_append]
theorem bl_inj {s t : ByteArray} (h : bl s = bl t) : s = t := by
  unfold bl at h
  have h1 : s.data.toList = t.data.toList := (List.map_inj_right (fun x y e => UInt8.toNat_inj.1 e)).1 h
  have h2 : s.data = t.data := Array.toList_inj.1 h1
  cases s; cases t; simp only at h2; subst h2; rfl
theorem bl_get (s : ByteArray) (i : Nat) (h : i < s.size) : (bl s)[i]? = some (bt s i) := by
  unfold bl
  have h' : i < s.data.size := h
  rw [List.getElem?_map, Array.getElem?_toList, Array.getElem?_eq_getElem h']
  simp only [Option.map_some, Option.some.injEq]
  unfold bt
  rw [dif_pos h]
  rfl
theorem bl_mem {s : ByteArray} {P : Nat → Prop} (h : ∀ c ∈ bl s, P c) (i : Nat) (hi : i < s.size) : P (bt s i) := h _ (List.mem_of_getElem? (bl_get s i hi))
theorem bl_ext (s : ByteArray) (a b : Nat) (h : b ≤ s.size) (hab : a ≤ b) : bl (s.extract a b) = ((bl s).drop a).take (b - a) := by
  apply List.ext_getElem?
  intro i
  have hz := size_ext s a b h
  by_cases hi : i < b - a
  · rw [bl_get _ _ (by rw [hz]; exact hi), List.getElem?_take, if_pos hi, List.getElem?_drop, bl_get _ _ (by omega)]
    unfold bt
    rw [dif_pos (by rw [hz]; exact hi), dif_pos (by omega)]
    simp only [ByteArray.getElem_extract]
  · rw [List.getElem?_eq_none (by rw [bl_len, hz]; omega), List.getElem?_eq_none (by rw [List.length_take]; omega)]
/-- From a on stands r. -/
def Rest (s : ByteArray) (a : Nat) (r : List Nat) : Prop := a ≤ s.size ∧ (bl s).drop a = r
theorem rest_zero (s : ByteArray) : Rest s 0 (bl s) := ⟨Nat.zero_le _, rfl⟩
theorem rest_len {s : ByteArray} {a : Nat} {r : List Nat} (h : Rest s a r) : a + r.length = s.size := by
  have h1 := congrArg List.length h.2
  rw [List.length_drop, bl_len] at h1
  have := h.1
  omega
theorem rest_app {s : ByteArray} {a : Nat} {l r : List Nat} (h : Rest s a (l ++ r)) : Rest s (a + l.length) r := by
  have h1 := rest_len h
  rw [List.length_append] at h1
  refine ⟨by omega, ?_⟩
  rw [← List.drop_drop, h.2, List.drop_left]
theorem rest_ext {s : ByteArray} {a : Nat} {l r : List Nat} (h : Rest s a (l ++ r)) : bl (s.extract a (a + l.length)) = l := by
  have h1 := rest_len h
  rw [List.length_append] at h1
  rw [bl_ext _ _ _ (by omega) (by omega), h.2, show a + l.length - a = l.length by omega, List.take_left]
theorem rest_cons {s : ByteArray} {a c : Nat} {r : List Nat} (h : Rest s a (c :: r)) : a < s.size ∧ bt s a = c ∧ Rest s (a + 1) r := by
  have h1 := rest_len h
  rw [List.length_cons] at h1
  have hl : a < s.size := by omega
  refine ⟨hl, ?_, rest_app (l := [c]) h⟩
  have h2 := bl_get s a hl
  have h3 : ((bl s).drop a)[0]? = some c := by rw [h.2]; rfl
  rw [List.getElem?_drop, Nat.add_zero, h2] at h3
  exact Option.some.inj h3
def stopAt (p : Nat → Bool) (r : List Nat) : Prop := ∀ c, r.head? = some c → p c = false
theorem stop_cons {p : Nat → Bool} {c : Nat} {r : List Nat} (h : p c = false) : stopAt p (c :: r) := fun d hd => by
  simp only [List.head?_cons, Option.some.injEq] at hd
  subst hd
  exact h
theorem scan_rest {p : Nat → Bool} {s : ByteArray} : ∀ {l : List Nat} {a : Nat} {r : List Nat}, Rest s a (l ++ r) → (∀ c ∈ l, p c = true) → stopAt p r → scan p s a = a + l.length
  | [], a, r, h, _, hs => by
    refine scan_stop p s a (fun hl => ?_)
    cases r with
    | nil => have := rest_len h; simp at this; omega
    | cons c r => rw [(rest_cons h).2.1]; exact hs c rfl
  | c :: l, a, r, h, hp, hs => by
    obtain ⟨h1, h2, h3⟩ := rest_cons (r := l ++ r) h
    rw [scan_step p s a h1 (by rw [h2]; exact hp c (by simp)), scan_rest h3 (fun d hd => hp d (by simp [hd])) hs, List.length_cons]
    omega
def s0 (a : Nat) : St := ⟨a, 0, 0⟩
theorem ris_rest {s : ByteArray} {a c : Nat} {r : List Nat} (h : Rest s a (c :: r)) (d : Nat) : ris s (s0 a) d = decide (c = d) := by
  obtain ⟨h1, h2, _⟩ := rest_cons h
  unfold ris s0
  simp [h1, h2]
theorem must_rest {s : ByteArray} {a c : Nat} {r : List Nat} (h : Rest s a (c :: r)) : rmust s (s0 a) c = s0 (a + 1) := by
  unfold rmust
  rw [ris_rest h, if_pos (by simp)]
  rfl
theorem blanks_rest {s : ByteArray} {a : Nat} {l r : List Nat} {b : Bool} (h : Rest s a (l ++ r)) (hl : ∀ c ∈ l, blankB b c = true) (hs : stopAt (blankB b) r) : rblanks s (s0 a) b = s0 (a + l.length) := by
  unfold rblanks
  show (⟨scan (blankB b) s a, 0, 0⟩ : St) = _
  rw [scan_rest h hl hs]
  rfl
theorem rest_bytes {s n : ByteArray} {a : Nat} {r : List Nat} (h : Rest s a (bl n ++ r)) : s.extract a (a + n.size) = n := by
  have := rest_ext h
  rw [bl_len] at this
  exact bl_inj this
theorem name_rest {s n : ByteArray} {a : Nat} {r : List Nat} (h : Rest s a (bl n ++ r)) (hl : ∀ c ∈ bl n, letterB c = true) (hs : stopAt letterB r) (h0 : 0 < n.size) (h20 : n.size ≤ 20) : rname s (s0 a) = (s0 (a + n.size), n) := by
  have e := scan_rest h hl hs
  rw [bl_len] at e
  rw [rname_eq s (s0 a) rfl h.1]
  show (if scan letterB s a = a then (⟨a, 3, a⟩ : St) else if 20 < scan letterB s a - a then (⟨scan letterB s a, 4, a⟩ : St) else (⟨scan letterB s a, 0, 0⟩ : St), s.extract a (scan letterB s a)) = _
  rw [e, rest_bytes h, if_neg (by omega), if_neg (by omega)]
  rfl
theorem path_rest {s n : ByteArray} {a c : Nat} {r : List Nat} (h : Rest s a (bl n ++ c :: r)) (hl : ∀ c ∈ bl n, letterB c = true) (hs : letterB c = false) (hc : c ≠ 46) (h0 : 0 < n.size) (h20 : n.size ≤ 20) : rpath s (s0 a) = (s0 (a + n.size), [n]) := by
  have hn := name_rest h hl (stop_cons hs) h0 h20
  have hr := rest_app h
  rw [bl_len] at hr
  obtain ⟨f, hf⟩ : ∃ f, s.size + 1 - a = f + 1 := ⟨s.size - a, by have := h.1; omega⟩
  have hp : rpathLoop s (s.size + 1 - a) (s0 a) [] = (s0 (a + n.size), [n]) := by
    rw [hf]
    unfold rpathLoop
    rw [hn]
    simp only
    rw [ris_rest hr, if_neg (by simpa using hc)]
    rfl
  unfold rpath
  show (if 4 < (rpathLoop s (s.size + 1 - a) (s0 a) []).2.length then rno (rpathLoop s (s.size + 1 - a) (s0 a) []).1 4 a else (rpathLoop s (s.size + 1 - a) (s0 a) []).1, (rpathLoop s (s.size + 1 - a) (s0 a) []).2) = _
  rw [hp]
  rfl
/-- A value as it is written. -/
structure Reads1 (w : ByteArray) (v : V) : Prop where
  head : ∃ c t, bl w = c :: t ∧ c ≠ 32 ∧ c ≠ 9 ∧ c ≠ 10 ∧ c ≠ 93
  read : ∀ (s : ByteArray) (a : Nat) (r : List Nat) (d nest : Nat), nest < 6 → Rest s a (bl w ++ r) → stopAt letterB r → rval s (d + 1) nest (s0 a) = (s0 (a + w.size), v)
structure Reads2 (w : ByteArray) (v : V) : Prop where
  head : ∃ c t, bl w = c :: t ∧ c ≠ 32 ∧ c ≠ 9 ∧ c ≠ 10 ∧ c ≠ 93
  read : ∀ (s : ByteArray) (a : Nat) (r : List Nat) (d nest : Nat), nest < 5 → Rest s a (bl w ++ r) → stopAt letterB r → rval s (d + 2) nest (s0 a) = (s0 (a + w.size), v)
theorem Reads1.two {w : ByteArray} {v : V} (h : Reads1 w v) : Reads2 w v := ⟨h.head, fun s a r d nest hn => h.read s a r (d + 1) nest (by omega)⟩
theorem run_rest {s n : ByteArray} {a : Nat} {r : List Nat} (h : Rest s a (bl n ++ r)) (hl : ∀ c ∈ bl n, letterB c = true) (hs : stopAt letterB r) : rrun s (s0 a) = (s0 (a + n.size), n) := by
  have e := scan_rest h hl hs
  rw [bl_len] at e
  unfold rrun
  show ((⟨scan letterB s a, 0, 0⟩ : St), s.extract a (scan letterB s a)) = _
  rw [e, rest_bytes h]
  rfl
theorem val_word {s : ByteArray} {a c : Nat} {r : List Nat} (h : Rest s a (c :: r)) (d nest : Nat) (h1 : c ≠ 91) (h2 : c ≠ 123) (h3 : c ≠ 34) : rval s (d + 1) nest (s0 a) = rword s (s0 a) := by
  obtain ⟨k1, k2, _⟩ := rest_cons h
  unfold rval
  have e : bt s (s0 a).a = c := k2
  rw [e, if_neg (by rintro (h | h); exact h rfl; exact absurd h (by show ¬ s.size ≤ a; omega)), if_neg (by omega), if_neg h3, if_neg h1, if_neg h2]
theorem word_plain {s : ByteArray} {a c : Nat} {r : List Nat} (h : Rest s a (c :: r)) (h1 : c ≠ 45) (h2 : c ≠ 43) : rword s (s0 a) = rwordAt s a false false (s0 a) := by
  unfold rword
  simp only [ris_rest h]
  rw [decide_eq_false h1, decide_eq_false h2, if_neg (by simp)]
  rfl
theorem word_sign {s : ByteArray} {a : Nat} {r : List Nat} (m : Bool) (h : Rest s a ((if m = true then 45 else 43) :: r)) : rword s (s0 a) = rwordAt s a m (!m) (s0 (a + 1)) := by
  unfold rword
  simp only [ris_rest h]
  cases m <;> rfl
def boolV (b : Bool) : V := ⟨98, if b = true then 1 else 0, ⟨#[]⟩, [], []⟩
theorem reads_bool (b : Bool) : Reads1 (if b = true then trueS else falseS) (boolV b) := by
  refine ⟨?_, ?_⟩
  · cases b
    · exact ⟨102, [97, 108, 115, 101], rfl, by decide⟩
    · exact ⟨116, [114, 117, 101], rfl, by decide⟩
  · intro s a r d nest hn h hs
    have hne : falseS ≠ trueS := by intro e; have := congrArg ByteArray.size e; exact absurd this (by decide)
    cases b
    · rw [if_neg (by decide)] at h ⊢
      rw [val_word (r := [97, 108, 115, 101] ++ r) h _ _ (by decide) (by decide) (by decide)]
      rw [word_plain (r := [97, 108, 115, 101] ++ r) h (by decide) (by decide)]
      unfold rwordAt
      simp only
      rw [run_rest h (by decide) hs, if_pos ⟨trivial, trivial, .inr rfl⟩, if_neg hne]
      rfl
    · rw [if_pos rfl] at h ⊢
      rw [val_word (r := [114, 117, 101] ++ r) h _ _ (by decide) (by decide) (by decide)]
      rw [word_plain (r := [114, 117, 101] ++ r) h (by decide) (by decide)]
      unfold rwordAt
      simp only
      rw [run_rest h (by decide) hs, if_pos ⟨trivial, trivial, .inl rfl⟩, if_pos rfl]
      rfl
/-- Numbers. -/
def dstep (z : Int) (c : Nat) : Int := if c ≠ 95 ∧ z ≤ 999999999999999 then 10 * z + c - 48 else z
theorem rdig_fold (t : ByteArray) : ∀ i, i ≤ t.size → rdig t i = ((bl t).take i).foldl dstep 0
  | 0, _ => rfl
  | i + 1, h => by
    rw [List.take_add_one, bl_get t i (by omega), List.foldl_append, ← rdig_fold t i (by omega)]
    rfl
theorem mrdig_all (t : ByteArray) : rdig t t.size = (bl t).foldl dstep 0 := by
  rw [rdig_fold t _ (Nat.le_refl _), List.take_of_length_le (by rw [bl_len]; exact Nat.le_refl _)]
def numV (n : Int) : V := ⟨110, n, ⟨#[]⟩, [], []⟩
def digC (c : Nat) : Prop := 48 ≤ c ∧ c ≤ 57
theorem dig_letter {c : Nat} (h : digC c) : letterB c = true := by unfold letterB; unfold digC at h; simp; omega
theorem okDigits_of (t : ByteArray) : ∀ n, (∀ i, i < n → okDigit t i = true) → okDigits t n = true
  | 0, _ => rfl
  | n + 1, h => by
    unfold okDigits
    rw [okDigits_of t n (fun i hi => h i (by omega)), h n (by omega)]
    rfl
/-- The body of a number. -/
structure NumOk (t : ByteArray) (n : Nat) : Prop where
  ok : rnumber t = true
  val : rdig t t.size = (n : Int)
  le : n ≤ 999999999999999
  let_ : ∀ c ∈ bl t, letterB c = true
  head : ∃ c l, bl t = c :: l ∧ digC c
theorem num_not_word {t : ByteArray} {n : Nat} (h : NumOk t n) : ¬ (t = trueS ∨ t = falseS) := by
  obtain ⟨c, l, e, hc⟩ := h.head
  unfold digC at hc
  rintro (rfl | rfl)
  · have e1 : bl trueS = [116, 114, 117, 101] := rfl
    rw [e1] at e
    cases e
    omega
  · have e1 : bl falseS = [102, 97, 108, 115, 101] := rfl
    rw [e1] at e
    cases e
    omega
theorem reads_num {t : ByteArray} {n : Nat} (h : NumOk t n) : Reads1 t (numV n) := by
  obtain ⟨c, l, e, hc⟩ := h.head
  have hc' := hc
  unfold digC at hc
  refine ⟨⟨c, l, e, by omega⟩, ?_⟩
  intro s a r d nest hn hr hs
  have hr' : Rest s a (c :: (l ++ r)) := by rw [e] at hr; exact hr
  rw [val_word hr' _ _ (by omega) (by omega) (by omega)]
  rw [word_plain hr' (by omega) (by omega)]
  unfold rwordAt
  simp only
  rw [run_rest hr h.let_ hs]
  rw [if_neg (fun q => num_not_word h q.2.2), if_neg (by rw [h.ok]; decide), if_neg (by rw [h.val]; have := h.le; omega), if_neg (by decide), h.val]
  rfl
theorem reads_sign {t : ByteArray} {n : Nat} (h : NumOk t n) (m : Bool) : Reads1 (⟨#[if m = true then 45 else 43]⟩ ++ t) (numV (if m = true then - (n : Int) else n)) := by
  have eb : bl (⟨#[if m = true then 45 else 43]⟩ ++ t) = (if m = true then 45 else 43) :: bl t := by rw [bl_app]; cases m <;> rfl
  have ez : (⟨#[if m = true then 45 else 43]⟩ ++ t : ByteArray).size = t.size + 1 := by rw [ByteArray.size_append]; show 1 + _ = _; omega
  refine ⟨⟨_, _, eb, by cases m <;> simp⟩, ?_⟩
  intro s a r d nest hn hr hs
  rw [eb] at hr
  have hr' : Rest s a ((if m = true then 45 else 43) :: (bl t ++ r)) := hr
  obtain ⟨_, _, hr2⟩ := rest_cons hr'
  rw [val_word hr' _ _ (by cases m <;> simp) (by cases m <;> simp) (by cases m <;> simp), ez]
  rw [word_sign m hr']
  unfold rwordAt
  simp only
  rw [run_rest hr2 h.let_ hs]
  rw [if_neg (by cases m <;> simp), if_neg (by rw [h.ok]; decide), if_neg (by rw [h.val]; have := h.le; omega), h.val, show a + 1 + t.size = a + (t.size + 1) by omega]
  cases m <;> rfl
end Go.Proofs.YtdebjhdafnpfkabGreatDoor

namespace Go.Proofs.YtdebjhdafnpfkabGreatDoor
set_option linter.unusedVariables false
set_option linter.unusedSimpArgs false
/-- hemkeep's pick and digits. -/
def pk (c : Int) (n : Nat) : Nat := (if c < 0 then -(c + 1) else c).toNat % n
theorem pk_lt (c : Int) (n : Nat) (h : 0 < n) : pk c n < n := Nat.mod_lt _ h
def dgB : Nat → Nat → ByteArray
  | 0, _ => ⟨#[]⟩
  | f + 1, n => if n < 10 then ⟨#[UInt8.ofNat (48 + n)]⟩ else dgB f (n / 10) ++ dgB f (n % 10)
def dgtB (n : Nat) : ByteArray := dgB 20 n
theorem dgB_fuel : ∀ (f g n : Nat), n < 10 ^ (f + 1) → n < 10 ^ (g + 1) → dgB (f + 1) n = dgB (g + 1) n
  | 0, g, n, h, _ => by
    have h' : n < 10 := h
    unfold dgB
    rw [if_pos h', if_pos h']
  | f + 1, g, n, h, hg => by
    unfold dgB
    by_cases hn : n < 10
    · rw [if_pos hn, if_pos hn]
    · rw [if_neg hn, if_neg hn]
      cases g with
      | zero => exact absurd hg hn
      | succ g =>
        have h1 : n / 10 < 10 ^ (f + 1) := Nat.div_lt_of_lt_mul (by rw [Nat.pow_succ] at h; omega)
        have h2 : n / 10 < 10 ^ (g + 1) := Nat.div_lt_of_lt_mul (by rw [Nat.pow_succ] at hg; omega)
        have h3 : n % 10 < 10 := Nat.mod_lt _ (by decide)
        have e1 : (10 : Nat) ≤ 10 ^ (f + 1) := by rw [Nat.pow_succ]; have := Nat.pow_pos (n := f) (show 0 < 10 by decide); omega
        have e2 : (10 : Nat) ≤ 10 ^ (g + 1) := by rw [Nat.pow_succ]; have := Nat.pow_pos (n := g) (show 0 < 10 by decide); omega
        rw [dgB_fuel f g _ h1 h2, dgB_fuel f g (n % 10) (by omega) (by omega)]
theorem digB_small (n : Nat) (h : n < 10) : dgtB n = ⟨#[UInt8.ofNat (48 + n)]⟩ := by
  unfold dgtB dgB
  rw [if_pos h]
theorem digB_big (n : Nat) (h : 10 ≤ n) (hn : n < 10000000000000000000) : dgtB n = dgtB (n / 10) ++ dgtB (n % 10) := by
  have h3 : n % 10 < 10 := Nat.mod_lt _ (by decide)
  have e : dgB 20 n = dgB 19 (n / 10) ++ dgB 19 (n % 10) := by
    show (if n < 10 then _ else _) = _
    rw [if_neg (by omega)]
  unfold dgtB
  rw [e, dgB_fuel 18 19 (n / 10) (by omega) (by omega), dgB_fuel 18 19 (n % 10) (by omega) (by omega)]
theorem bl_dig (n : Nat) (h : n < 10) : bl (dgtB n) = [48 + n] := by
  rw [digB_small n h]
  show [(UInt8.ofNat (48 + n)).toNat] = _
  rw [UInt8.toNat_ofNat', Nat.mod_eq_of_lt (by omega)]
theorem dg_ind {P : Nat → Prop} (h1 : ∀ n, n < 10 → P n) (h2 : ∀ n, 10 ≤ n → n < 10000000000000000000 → P (n / 10) → P n) : ∀ n, n < 10000000000000000000 → P n := by
  intro n
  induction n using Nat.strongRecOn with
  | _ n ih =>
    intro hn
    by_cases h : n < 10
    · exact h1 n h
    · exact h2 n (by omega) hn (ih (n / 10) (by omega) (by omega))
theorem dig_all : ∀ n, n < 10000000000000000000 → ∀ c ∈ bl (dgtB n), digC c := by
  apply dg_ind
  · intro n h c hc
    rw [bl_dig n h] at hc
    simp only [List.mem_singleton] at hc
    unfold digC
    omega
  · intro n h hn ih c hc
    rw [digB_big n h hn, bl_app, List.mem_append] at hc
    rcases hc with hc | hc
    · exact ih c hc
    · rw [bl_dig _ (Nat.mod_lt _ (by decide))] at hc
      simp only [List.mem_singleton] at hc
      unfold digC
      omega
theorem dig_head : ∀ n, n < 10000000000000000000 → ∃ c l, bl (dgtB n) = c :: l ∧ (c = 48 → n = 0) ∧ (n = 0 → l = []) := by
  apply dg_ind
  · intro n h
    exact ⟨48 + n, [], bl_dig n h, fun e => by omega, fun _ => rfl⟩
  · intro n h hn ih
    obtain ⟨c, l, e, hc, hl⟩ := ih
    refine ⟨c, l ++ bl (dgtB (n % 10)), ?_, fun e => ?_, fun e => by omega⟩
    · rw [digB_big n h hn, bl_app, e]; rfl
    · have := hc e; omega
theorem dig_val : ∀ n, n < 10000000000000000000 → n ≤ 999999999999999 → (bl (dgtB n)).foldl dstep 0 = (n : Int) := by
  apply dg_ind
  · intro n h _
    rw [bl_dig n h]
    show dstep 0 (48 + n) = _
    unfold dstep
    rw [if_pos (by omega)]
    omega
  · intro n h hn ih hle
    rw [digB_big n h hn, bl_app, List.foldl_append, ih (by omega), bl_dig _ (Nat.mod_lt _ (by decide))]
    show dstep _ _ = _
    unfold dstep
    rw [if_pos (by omega)]
    omega
theorem dgB_size : ∀ f n, (dgB f n).size ≤ f
  | 0, n => Nat.le_refl _
  | f + 1, n => by
    unfold dgB
    split
    · show 1 ≤ _; omega
    · rw [ByteArray.size_append]
      have h1 := dgB_size f (n / 10)
      have h2 : (dgB f (n % 10)).size ≤ 1 := by
        cases f with
        | zero => exact Nat.zero_le _
        | succ f => unfold dgB; rw [if_pos (Nat.mod_lt _ (by decide))]; exact Nat.le_refl _
      omega
theorem dig_size (n : Nat) : (dgtB n).size ≤ 20 := dgB_size 20 n
theorem num_plain {t : ByteArray} {c : Nat} {l : List Nat} (e : bl t = c :: l) (hd : ∀ d ∈ bl t, digC d) (hz : c = 48 → l = []) : rnumber t = true := by
  have hs : t.size = l.length + 1 := by rw [← bl_len, e]; rfl
  have h0 : bt t 0 = c := by have := bl_get t 0 (by omega); rw [e] at this; simpa using this.symm
  unfold rnumber
  rw [okDigits_of t _ (fun i hi => by
    have := bl_mem (P := digC) hd i hi
    unfold digC at this
    unfold okDigit
    simp only [decide_eq_true_eq]
    exact .inl this), Bool.and_true, decide_eq_true_eq]
  refine ⟨by omega, ?_⟩
  rintro ⟨h1, h2⟩
  rw [h0] at h2
  have := hz h2
  subst this
  simp at hs
  omega
theorem num_odd {t : ByteArray} {c d : Nat} {l : List Nat} (e : bl t = c :: 95 :: d :: l) (h1 : digC c) (h2 : digC d) (h3 : ∀ x ∈ l, digC x) (hz : c ≠ 48) : rnumber t = true := by
  have hs : t.size = l.length + 3 := by rw [← bl_len, e]; rfl
  have g : ∀ i x, (bl t)[i]? = some x → i < t.size → bt t i = x := fun i x hx hi => by rw [bl_get t i hi] at hx; exact Option.some.inj hx
  have e0 : bt t 0 = c := g 0 c (by rw [e]; rfl) (by omega)
  have e1 : bt t 1 = 95 := g 1 95 (by rw [e]; rfl) (by omega)
  have e2 : bt t 2 = d := g 2 d (by rw [e]; rfl) (by omega)
  unfold digC at h1 h2 h3
  unfold rnumber
  rw [okDigits_of t _ (fun i hi => by
    unfold okDigit
    simp only [decide_eq_true_eq]
    match i, hi with
    | 0, _ => rw [e0]; exact .inl h1
    | 1, _ => rw [e1, e2]; exact .inr ⟨rfl, by decide, by omega, by omega⟩
    | 2, _ => rw [e2]; exact .inl h2
    | i + 3, hi =>
      left
      have hl : i < l.length := by omega
      rw [g (i + 3) l[i] (by rw [e]; simp [List.getElem?_eq_getElem hl]) hi]
      exact h3 _ (List.getElem_mem hl)), Bool.and_true, decide_eq_true_eq]
  refine ⟨by omega, ?_⟩
  rintro ⟨_, h⟩
  rw [e0] at h
  exact hz h
theorem num_dig (n : Nat) (h : n ≤ 999999999999999) : NumOk (dgtB n) n := by
  obtain ⟨c, l, e, hc, hl⟩ := dig_head n (by omega)
  have hd := dig_all n (by omega)
  exact ⟨num_plain e hd (fun h => hl (hc h)), by rw [mrdig_all, dig_val n (by omega) h], h, fun c hc => dig_letter (hd c hc), c, l, e, hd c (by rw [e]; simp)⟩
/-- The body of a number that is written with a sign that says nothing. -/
def odB (n : Nat) : ByteArray := if 2 < (dgtB n).size then (dgtB n).extract 0 1 ++ ⟨#[95]⟩ ++ (dgtB n).extract 1 (dgtB n).size else dgtB n
theorem num_od (n : Nat) (h : n ≤ 999999999999999) : NumOk (odB n) n := by
  unfold odB
  by_cases hs : 2 < (dgtB n).size
  · rw [if_pos hs]
    obtain ⟨c, l, e, hc, hl⟩ := dig_head n (by omega)
    have hd := dig_all n (by omega)
    have hv := dig_val n (by omega) h
    have hlen : l.length + 1 = (dgtB n).size := by rw [← bl_len, e]; rfl
    cases l with
    | nil => simp at hlen; omega
    | cons d l =>
      have eb : bl ((dgtB n).extract 0 1 ++ ⟨#[95]⟩ ++ (dgtB n).extract 1 (dgtB n).size) = c :: 95 :: d :: l := by
        rw [bl_app, bl_app, bl_ext _ _ _ (by omega) (by omega), bl_ext _ _ _ (Nat.le_refl _) (by omega), e, List.take_of_length_le (l := List.drop 1 _) (by simp at hlen ⊢; omega)]
        rfl
      have hdc : digC c := hd c (by rw [e]; simp)
      have hdd : digC d := hd d (by rw [e]; simp)
      have hdl : ∀ x ∈ l, digC x := fun x hx => hd x (by rw [e]; simp [hx])
      refine ⟨num_odd eb hdc hdd hdl (fun h => by have := hl (hc h); simp at this), ?_, h, ?_, c, _, eb, hdc⟩
      · rw [mrdig_all, eb]
        rw [e] at hv
        show List.foldl dstep (dstep (dstep 0 c) 95) (d :: l) = _
        rw [show dstep (dstep 0 c) 95 = dstep 0 c by unfold dstep; rw [if_neg (by simp)]]
        exact hv
      · intro x hx
        rw [eb] at hx
        simp only [List.mem_cons] at hx
        rcases hx with rfl | rfl | rfl | hx
        · exact dig_letter hdc
        · rfl
        · exact dig_letter hdd
        · exact dig_letter (hdl x hx)
  · rw [if_neg hs]
    exact num_dig n h
/-- Texts. -/
def Text (S W : ByteArray) : Prop := ∀ (s : ByteArray) (a : Nat) (r : List Nat) (n : Nat) (t : ByteArray), Rest s a (bl W ++ 34 :: r) → W.size < n → rtextLoop s n (s0 a) t = (s0 (a + W.size + 1), t ++ S)
theorem text_nil : Text ⟨#[]⟩ ⟨#[]⟩ := by
  intro s a r n t h hn
  obtain ⟨n, rfl⟩ : ∃ m, n = m + 1 := ⟨n - 1, by have : (⟨#[]⟩ : ByteArray).size = 0 := rfl; omega⟩
  obtain ⟨_, h2, _⟩ := rest_cons (c := 34) (r := r) h
  rw [textLoop_end s n (s0 a) t rfl h2]
  have e : t ++ (⟨#[]⟩ : ByteArray) = t := ByteArray.append_empty
  rw [e]
  rfl
theorem text_byte {S W : ByteArray} (h : Text S W) (b : Nat) (h1 : 32 ≤ b) (h2 : b < 256) (h3 : b ≠ 34) (h4 : b ≠ 92) : Text (⟨#[UInt8.ofNat b]⟩ ++ S) (⟨#[UInt8.ofNat b]⟩ ++ W) := by
  intro s a r n t hr hn
  have eb : bl (⟨#[UInt8.ofNat b]⟩ ++ W) = b :: bl W := by
    rw [bl_app]
    show [(UInt8.ofNat b).toNat] ++ bl W = _
    rw [UInt8.toNat_ofNat', Nat.mod_eq_of_lt (by omega)]
    rfl
  have ez : (⟨#[UInt8.ofNat b]⟩ ++ W : ByteArray).size = W.size + 1 := by rw [ByteArray.size_append]; show 1 + _ = _; omega
  rw [ez] at hn ⊢
  rw [eb] at hr
  obtain ⟨n, rfl⟩ : ∃ m, n = m + 1 := ⟨n - 1, by omega⟩
  obtain ⟨k1, k2, k3⟩ := rest_cons (r := bl W ++ 34 :: r) hr
  have el : rletter s (s0 a) = (s0 (a + 1), b) := by
    unfold rletter
    show (if s.size ≤ a ∨ bt s a < 32 then _ else if bt s a = 92 then _ else (s0 (a + 1), bt s a)) = _
    rw [k2, if_neg (by omega), if_neg h4]
  rw [textLoop_letter s n (s0 a) t rfl (by show bt s a ≠ 34; omega) (by rw [el]; rfl), el]
  show rtextLoop s n (s0 (a + 1)) (put t b) = _
  rw [h s (a + 1) r n _ k3 (by omega)]
  unfold put
  rw [ByteArray.append_assoc, show a + 1 + W.size + 1 = a + (W.size + 1) + 1 by omega]
theorem text_esc {S W : ByteArray} (h : Text S W) (b : Nat) (h1 : escB b = true) : Text (⟨#[UInt8.ofNat (escN b)]⟩ ++ S) (⟨#[92, UInt8.ofNat b]⟩ ++ W) := by
  intro s a r n t hr hn
  have hb : b < 256 := by unfold escB at h1; simp only [decide_eq_true_eq] at h1; omega
  have eb : bl (⟨#[92, UInt8.ofNat b]⟩ ++ W) = 92 :: b :: bl W := by
    rw [bl_app]
    show [92, (UInt8.ofNat b).toNat] ++ bl W = _
    rw [UInt8.toNat_ofNat', Nat.mod_eq_of_lt (by omega)]
    rfl
  have ez : (⟨#[92, UInt8.ofNat b]⟩ ++ W : ByteArray).size = W.size + 2 := by rw [ByteArray.size_append]; show 2 + _ = _; omega
  rw [ez] at hn ⊢
  rw [eb] at hr
  obtain ⟨n, rfl⟩ : ∃ m, n = m + 1 := ⟨n - 1, by omega⟩
  obtain ⟨k1, k2, k3⟩ := rest_cons (r := b :: (bl W ++ 34 :: r)) hr
  obtain ⟨k4, k5, k6⟩ := rest_cons k3
  have el : rletter s (s0 a) = (s0 (a + 2), escN b) := by
    unfold rletter
    show (if s.size ≤ a ∨ bt s a < 32 then _ else if bt s a = 92 then ((⟨(rescSt s (s0 (a + 1))).a + 1, (rescSt s (s0 (a + 1))).e, (rescSt s (s0 (a + 1))).p⟩ : St), resc s (s0 (a + 1))) else _) = _
    rw [k2, if_neg (by omega), if_pos rfl, resc_eq s (s0 (a + 1)) rfl, rescSt_ok s (s0 (a + 1)) rfl (by show escB (bt s (a + 1)) = true; rw [k5]; exact h1)]
    show (_, escN (bt s (a + 1))) = _
    rw [k5]
    rfl
  rw [textLoop_letter s n (s0 a) t rfl (by show bt s a ≠ 34; omega) (by rw [el]; rfl), el]
  show rtextLoop s n (s0 (a + 2)) (put t (escN b)) = _
  rw [h s (a + 2) r n _ k6 (by omega)]
  unfold put
  rw [ByteArray.append_assoc, show a + 2 + W.size + 1 = a + (W.size + 2) + 1 by omega]
def wS : ByteArray := ⟨#[97, 98, 32, 34, 92, 10, 9, 35, 61, 44, 93, 125]⟩
def wx (k : Nat) : ByteArray := wS.extract k (k + 1)
def wes (k : Nat) : ByteArray := if k = 3 ∨ k = 4 then ⟨#[92]⟩ ++ wx k else if k = 5 then ⟨#[92, 110]⟩ else if k = 6 then ⟨#[92, 116]⟩ else wx k
theorem text_letter {S W : ByteArray} (h : Text S W) : ∀ k, k < 12 → Text (wx k ++ S) (wes k ++ W)
  | 0, _ => text_byte h 97 (by decide) (by decide) (by decide) (by decide)
  | 1, _ => text_byte h 98 (by decide) (by decide) (by decide) (by decide)
  | 2, _ => text_byte h 32 (by decide) (by decide) (by decide) (by decide)
  | 3, _ => text_esc h 34 rfl
  | 4, _ => text_esc h 92 rfl
  | 5, _ => text_esc h 110 rfl
  | 6, _ => text_esc h 116 rfl
  | 7, _ => text_byte h 35 (by decide) (by decide) (by decide) (by decide)
  | 8, _ => text_byte h 61 (by decide) (by decide) (by decide) (by decide)
  | 9, _ => text_byte h 44 (by decide) (by decide) (by decide) (by decide)
  | 10, _ => text_byte h 93 (by decide) (by decide) (by decide) (by decide)
  | 11, _ => text_byte h 125 (by decide) (by decide) (by decide) (by decide)
  | k + 12, h => absurd h (by omega)
def wLoop : Nat → Nat → ByteArray → ByteArray → ByteArray × ByteArray
  | 0, _, s, w => (s, w)
  | f + 1, c, s, w => if c = 0 then (s, w) else wLoop f (c / 12) (s ++ wx (c % 12)) (w ++ wes (c % 12))
theorem wLoop_text : ∀ (f c : Nat) (s w : ByteArray), ∃ S W, wLoop f c s w = (s ++ S, w ++ W) ∧ Text S W
  | 0, c, s, w => ⟨⟨#[]⟩, ⟨#[]⟩, by
      have e1 : s ++ (⟨#[]⟩ : ByteArray) = s := ByteArray.append_empty
      have e2 : w ++ (⟨#[]⟩ : ByteArray) = w := ByteArray.append_empty
      rw [e1, e2]; rfl, text_nil⟩
  | f + 1, c, s, w => by
    unfold wLoop
    split
    · have e1 : s ++ (⟨#[]⟩ : ByteArray) = s := ByteArray.append_empty
      have e2 : w ++ (⟨#[]⟩ : ByteArray) = w := ByteArray.append_empty
      exact ⟨⟨#[]⟩, ⟨#[]⟩, by rw [e1, e2], text_nil⟩
    · obtain ⟨S, W, e, h⟩ := wLoop_text f (c / 12) (s ++ wx (c % 12)) (w ++ wes (c % 12))
      exact ⟨wx (c % 12) ++ S, wes (c % 12) ++ W, by rw [e, ByteArray.append_assoc, ByteArray.append_assoc], text_letter h _ (Nat.mod_lt _ (by decide))⟩
def wordS (c : Int) : ByteArray := (wLoop 12 (pk c 1099511627776) ⟨#[]⟩ ⟨#[34]⟩).1
def wordW (c : Int) : ByteArray := (wLoop 12 (pk c 1099511627776) ⟨#[]⟩ ⟨#[34]⟩).2 ++ ⟨#[34]⟩
def textV (s : ByteArray) : V := ⟨115, 0, s, [], []⟩
theorem reads_text {S W : ByteArray} (h : Text S W) : Reads1 (⟨#[34]⟩ ++ W ++ ⟨#[34]⟩) (textV S) := by
  have eb : bl (⟨#[34]⟩ ++ W ++ ⟨#[34]⟩) = 34 :: (bl W ++ [34]) := by rw [bl_app, bl_app]; rfl
  have ez : (⟨#[34]⟩ ++ W ++ ⟨#[34]⟩ : ByteArray).size = W.size + 2 := by rw [ByteArray.size_append, ByteArray.size_append]; show 1 + _ + 1 = _; omega
  refine ⟨⟨_, _, eb, by decide⟩, ?_⟩
  intro s a r d nest hn hr hs
  rw [eb, List.cons_append, List.append_assoc] at hr
  obtain ⟨k1, k2, k3⟩ := rest_cons hr
  have hl := rest_len k3
  rw [List.length_append, bl_len] at hl
  unfold rval
  have e : bt s (s0 a).a = 34 := k2
  rw [e, if_neg (by rintro (h | h); exact h rfl; exact absurd h (by show ¬ s.size ≤ a; omega)), if_neg (by omega), if_pos rfl]
  unfold rtext
  show ((rtextLoop s (s.size + 3 - a) (rmust s (s0 a) 34) ⟨#[]⟩).1, (⟨115, 0, (rtextLoop s (s.size + 3 - a) (rmust s (s0 a) 34) ⟨#[]⟩).2, [], []⟩ : V)) = _
  rw [must_rest hr, h s (a + 1) r _ _ k3 (by omega)]
  have e1 : (⟨#[]⟩ : ByteArray) ++ S = S := ByteArray.empty_append
  rw [ez, show a + 1 + W.size + 1 = a + (W.size + 2) by omega]
  simp only [e1]
  rfl
theorem reads_word (c : Int) : Reads1 (wordW c) (textV (wordS c)) := by
  unfold wordW wordS
  obtain ⟨S, W, e, h⟩ := wLoop_text 12 (pk c 1099511627776) ⟨#[]⟩ ⟨#[34]⟩
  have e1 : (⟨#[]⟩ : ByteArray) ++ S = S := ByteArray.empty_append
  rw [e, e1]
  exact reads_text h
end Go.Proofs.YtdebjhdafnpfkabGreatDoor
