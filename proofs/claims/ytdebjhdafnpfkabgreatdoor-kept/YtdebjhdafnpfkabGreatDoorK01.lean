import GoSem.ClaimJoined
namespace Go.Proofs.YtdebjhdafnpfkabGreatDoor
set_option linter.unusedVariables false
/-- The byte at a place, as a number; 0 behind the end. -/
def bt (s : ByteArray) (i : Nat) : Nat := if h : i < s.size then s[i].toNat else 0
theorem bt_in (s : ByteArray) (i : Nat) (h : i < s.size) : s[i].toNat = bt s i := by simp [bt, h]
theorem bt_lt (s : ByteArray) (i : Nat) : bt s i < 256 := by
  unfold bt
  split
  · exact UInt8.toNat_lt _
  · omega
/-- How far bytes go on that are of a kind. -/
def skip (p : Nat → Bool) (s : ByteArray) : Nat → Nat → Nat
  | 0, a => a
  | n + 1, a => if a < s.size ∧ p (bt s a) = true then skip p s n (a + 1) else a
def scan (p : Nat → Bool) (s : ByteArray) (a : Nat) : Nat := skip p s (s.size - a) a
theorem skip_ge (p : Nat → Bool) (s : ByteArray) : ∀ n a, a ≤ skip p s n a
  | 0, a => Nat.le_refl _
  | n + 1, a => by
    unfold skip
    split
    · exact Nat.le_trans (Nat.le_succ a) (skip_ge p s n (a + 1))
    · exact Nat.le_refl _
theorem skip_le (p : Nat → Bool) (s : ByteArray) : ∀ n a, a ≤ s.size → skip p s n a ≤ s.size
  | 0, a, h => h
  | n + 1, a, h => by
    unfold skip
    split
    · rename_i hc; exact skip_le p s n (a + 1) (by omega)
    · exact h
theorem scan_ge (p : Nat → Bool) (s : ByteArray) (a : Nat) : a ≤ scan p s a := skip_ge _ _ _ _
theorem scan_le (p : Nat → Bool) (s : ByteArray) (a : Nat) (h : a ≤ s.size) : scan p s a ≤ s.size := skip_le _ _ _ _ h
theorem scan_step (p : Nat → Bool) (s : ByteArray) (a : Nat) (h : a < s.size) (hp : p (bt s a) = true) : scan p s a = scan p s (a + 1) := by
  unfold scan
  obtain ⟨n, hn⟩ : ∃ n, s.size - a = n + 1 := ⟨s.size - a - 1, by omega⟩
  rw [hn]
  have e : s.size - (a + 1) = n := by omega
  rw [e]
  show (if a < s.size ∧ p (bt s a) = true then skip p s n (a + 1) else a) = _
  rw [if_pos ⟨h, hp⟩]
theorem scan_stop (p : Nat → Bool) (s : ByteArray) (a : Nat) (hp : a < s.size → p (bt s a) = false) : scan p s a = a := by
  unfold scan
  cases hn : s.size - a with
  | zero => rfl
  | succ n =>
    show (if a < s.size ∧ p (bt s a) = true then skip p s n (a + 1) else a) = _
    rw [if_neg]
    rintro ⟨h, h2⟩
    rw [hp h] at h2
    cases h2
/-- What the document's reader knows of its place: where it is, what is wrong, and where. -/
structure St where
  a : Nat
  e : Nat
  p : Nat
def rno (x : St) (k q : Nat) : St := if x.e = 0 then ⟨x.a, k, q⟩ else x
def ris (s : ByteArray) (x : St) (c : Nat) : Bool := decide (x.e = 0 ∧ x.a < s.size ∧ bt s x.a = c)
def rmust (s : ByteArray) (x : St) (c : Nat) : St := if ris s x c = true then ⟨x.a + 1, x.e, x.p⟩ else rno x 3 x.a
def blankB (list : Bool) (c : Nat) : Bool := decide (c = 32 ∨ c = 9 ∨ (list = true ∧ c = 10))
def rblanks (s : ByteArray) (x : St) (list : Bool) : St := ⟨scan (blankB list) s x.a, x.e, x.p⟩
def letterB (c : Nat) : Bool := decide ((97 ≤ c ∧ c ≤ 122) ∨ (65 ≤ c ∧ c ≤ 90) ∨ (48 ≤ c ∧ c ≤ 57) ∨ c = 95 ∨ c = 45)
def rrun (s : ByteArray) (x : St) : St × ByteArray := (⟨scan letterB s x.a, x.e, x.p⟩, s.extract x.a (scan letterB s x.a))
def rname (s : ByteArray) (x : St) : St × ByteArray :=
  let r := rrun s x
  let x1 := if r.2.size = 0 then rno r.1 3 x.a else r.1
  (if 20 < r.2.size then rno x1 4 x.a else x1, r.2)
end Go.Proofs.YtdebjhdafnpfkabGreatDoor

namespace Go.Proofs.YtdebjhdafnpfkabGreatDoor
set_option linter.unusedVariables false
/-- A value: 110 a number, 98 a truth, 115 a text, 108 a list, 103 a group. -/
structure V where
  k : Nat
  n : Int
  s : ByteArray
  l : List V
  m : List ByteArray
def V0 : V := ⟨0, 0, ⟨#[]⟩, [], []⟩
def rpathLoop (s : ByteArray) : Nat → St → List ByteArray → St × List ByteArray
  | 0, x, l => (x, l)
  | n + 1, x, l =>
    if ris s (rname s x).1 46 = true then rpathLoop s n ⟨(rname s x).1.a + 1, (rname s x).1.e, (rname s x).1.p⟩ (l ++ [(rname s x).2])
    else ((rname s x).1, l ++ [(rname s x).2])
def rpath (s : ByteArray) (x : St) : St × List ByteArray :=
  let r := rpathLoop s (s.size + 1 - x.a) x []
  (if 4 < r.2.length then rno r.1 4 x.a else r.1, r.2)
def okDigit (t : ByteArray) (i : Nat) : Bool := decide ((48 ≤ bt t i ∧ bt t i ≤ 57) ∨ (bt t i = 95 ∧ i ≠ 0 ∧ i + 1 ≠ t.size ∧ bt t (i + 1) ≠ 95))
def okDigits (t : ByteArray) : Nat → Bool
  | 0 => true
  | n + 1 => okDigits t n && okDigit t n
def rnumber (t : ByteArray) : Bool := decide (t.size ≠ 0 ∧ ¬ (1 < t.size ∧ bt t 0 = 48)) && okDigits t t.size
def rdig (t : ByteArray) : Nat → Int
  | 0 => 0
  | i + 1 => if bt t i ≠ 95 ∧ rdig t i ≤ 999999999999999 then 10 * rdig t i + bt t i - 48 else rdig t i
def trueS : ByteArray := ⟨#[116, 114, 117, 101]⟩
def falseS : ByteArray := ⟨#[102, 97, 108, 115, 101]⟩
/-- Behind the sign. -/
def rwordAt (s : ByteArray) (at0 : Nat) (minus plus : Bool) (x1 : St) : St × V :=
  let r := rrun s x1
  if minus = false ∧ plus = false ∧ (r.2 = trueS ∨ r.2 = falseS) then (r.1, ⟨98, if r.2 = trueS then 1 else 0, ⟨#[]⟩, [], []⟩)
  else if rnumber r.2 = false then (rno r.1 3 at0, V0)
  else (if 999999999999999 < rdig r.2 r.2.size then rno r.1 4 at0 else r.1, ⟨110, if minus = true then - rdig r.2 r.2.size else rdig r.2 r.2.size, ⟨#[]⟩, [], []⟩)
def rword (s : ByteArray) (x : St) : St × V :=
  let minus := ris s x 45
  let plus := ris s x 43
  rwordAt s x.a minus plus (if minus = true ∨ plus = true then ⟨x.a + 1, x.e, x.p⟩ else x)
def put (t : ByteArray) (c : Nat) : ByteArray := t ++ ⟨#[UInt8.ofNat c]⟩
/-- What an escaped byte means; 92: the byte itself, or no escape. -/
def resc (s : ByteArray) (x : St) : Nat := if ris s x 92 = true then 92 else if ris s x 34 = true then 34 else if ris s x 110 = true then 10 else if ris s x 116 = true then 9 else 92
def rescSt (s : ByteArray) (x : St) : St := if ris s x 92 = true ∨ ris s x 34 = true ∨ ris s x 110 = true ∨ ris s x 116 = true then x else rno x 3 x.a
def rtextLoop (s : ByteArray) : Nat → St → ByteArray → St × ByteArray
  | 0, x, t => (x, t)
  | n + 1, x, t =>
    if x.e ≠ 0 then (x, t)
    else if s.size ≤ x.a ∨ bt s x.a < 32 then (rno x 3 x.a, t)
    else if bt s x.a = 34 then (⟨x.a + 1, x.e, x.p⟩, t)
    else if bt s x.a = 92 then
      rtextLoop s n ⟨(rescSt s ⟨x.a + 1, x.e, x.p⟩).a + 1, (rescSt s ⟨x.a + 1, x.e, x.p⟩).e, (rescSt s ⟨x.a + 1, x.e, x.p⟩).p⟩ (put t (resc s ⟨x.a + 1, x.e, x.p⟩))
    else rtextLoop s n ⟨x.a + 1, x.e, x.p⟩ (put t (bt s x.a))
def rtext (s : ByteArray) (x : St) : St × V :=
  let r := rtextLoop s (s.size + 3 - x.a) (rmust s x 34) ⟨#[]⟩
  (r.1, ⟨115, 0, r.2, [], []⟩)
def rlistLoop (s : ByteArray) (f : St → St × V) : Nat → St → List V → St × List V
  | 0, x, l => (x, l)
  | n + 1, x, l =>
    if x.e ≠ 0 then (x, l)
    else if ris s (rblanks s x true) 93 = true then (rblanks s x true, l)
    else
      let r := f (rblanks s x true)
      let y := rblanks s r.1 true
      if ris s y 44 = true then rlistLoop s f n ⟨y.a + 1, y.e, y.p⟩ (l ++ [r.2]) else (y, l ++ [r.2])
def rlist (s : ByteArray) (f : St → St × V) (x : St) : St × V :=
  let r := rlistLoop s f (s.size + 3 - x.a) ⟨x.a + 1, x.e, x.p⟩ []
  (rmust s r.1 93, ⟨108, 0, ⟨#[]⟩, r.2, []⟩)
def has (m : List ByteArray) (nm : ByteArray) : Bool := m.any fun k => decide (k = nm)
/-- A group's one pair: up to what stands behind its value. -/
def rmember (s : ByteArray) (f : St → St × V) (m : List ByteArray) (x : St) : St × V × ByteArray :=
  let x1 := rblanks s x false
  let nm := rname s x1
  let x3 := if has m nm.2 = true then rno nm.1 6 x1.a else nm.1
  let r := f (rblanks s (rmust s (rblanks s x3 false) 61) false)
  (rblanks s r.1 false, r.2, nm.2)
def rgroupLoop (s : ByteArray) (f : St → St × V) : Nat → St → List V → List ByteArray → St × List V × List ByteArray
  | 0, x, l, m => (x, l, m)
  | n + 1, x, l, m =>
    if x.e ≠ 0 then (x, l, m)
    else
      let r := rmember s f m x
      if ris s r.1 44 = true then rgroupLoop s f n ⟨r.1.a + 1, r.1.e, r.1.p⟩ (l ++ [r.2.1]) (m ++ [r.2.2]) else (r.1, l ++ [r.2.1], m ++ [r.2.2])
def rgroup (s : ByteArray) (f : St → St × V) (x : St) : St × V :=
  let x1 := rblanks s ⟨x.a + 1, x.e, x.p⟩ false
  if ris s x1 125 = true then (⟨x1.a + 1, x1.e, x1.p⟩, ⟨103, 0, ⟨#[]⟩, [], []⟩)
  else
    let r := rgroupLoop s f (s.size + 3 - x.a) x1 [] []
    (rmust s r.1 125, ⟨103, 0, ⟨#[]⟩, r.2.1, r.2.2⟩)
def rval (s : ByteArray) : Nat → Nat → St → St × V
  | 0, _, x => (x, V0)
  | d + 1, nest, x =>
    if x.e ≠ 0 ∨ s.size ≤ x.a then (rno x 3 x.a, V0)
    else if (bt s x.a = 91 ∨ bt s x.a = 123) ∧ 6 ≤ nest then (rno x 5 x.a, V0)
    else if bt s x.a = 34 then rtext s x
    else if bt s x.a = 91 then rlist s (rval s d (nest + 1)) x
    else if bt s x.a = 123 then rgroup s (rval s d (nest + 1)) x
    else rword s x
/-- What stands in a line: 32 nothing, 35 a remark alone, 91 a header, 61 a pair. -/
structure It where
  k : Nat
  path : List ByteArray
  full : List ByteArray
  v : V
  rem : ByteArray
def rstarts (path with_ : List ByteArray) : Bool := decide (with_.length ≤ path.length ∧ path.take with_.length = with_)
def rclash (x o : It) : Bool :=
  (decide (x.k = 91 ∧ o.k = 91 ∧ x.path.length = o.path.length) && rstarts x.path o.path)
  || (decide (x.k = 91 ∧ o.k = 61) && rstarts x.path o.full)
  || (decide (x.k = 61 ∧ o.k = 61) && (rstarts x.full o.full || rstarts o.full x.full))
  || (decide (x.k = 61 ∧ o.k = 91) && rstarts o.path x.full)
def rtwice (items : List It) (x : It) : Bool := items.any (rclash x)
def rtable (items : List It) : List ByteArray :=
  match items.reverse.find? (fun o => decide (o.k = 91)) with
  | some o => o.path
  | none => []
def ritem (s : ByteArray) (items : List It) (x : St) : St × It :=
  if ris s x 91 = true then
    let r := rpath s (rblanks s ⟨x.a + 1, x.e, x.p⟩ false)
    let y := rmust s (rblanks s r.1 false) 93
    let t : It := ⟨91, r.2, [], V0, ⟨#[]⟩⟩
    (if y.e = 0 ∧ rtwice items t = true then rno y 6 x.a else y, t)
  else
    let r := rpath s x
    let f := rval s 7 0 (rblanks s (rmust s (rblanks s r.1 false) 61) false)
    let t : It := ⟨61, r.2, rtable items ++ r.2, f.2, ⟨#[]⟩⟩
    (if f.1.e = 0 ∧ rtwice items t = true then rno f.1 6 x.a else f.1, t)
def inLine (c : Nat) : Bool := decide (c ≠ 10)
def rline (s : ByteArray) (items : List It) (x : St) : St × It :=
  let x1 := rblanks s x false
  if s.size ≤ x1.a ∨ bt s x1.a = 10 then (x1, ⟨32, [], [], V0, ⟨#[]⟩⟩)
  else
    let r := if ris s x1 35 = true then (x1, ⟨35, [], [], V0, ⟨#[]⟩⟩) else (rblanks s (ritem s items x1).1 false, (ritem s items x1).2)
    if ris s r.1 35 = true then (⟨scan inLine s r.1.a, r.1.e, r.1.p⟩, ⟨r.2.k, r.2.path, r.2.full, r.2.v, s.extract r.1.a (scan inLine s r.1.a)⟩)
    else r
def rreadLoop (s : ByteArray) : Nat → St → List It → St × List It
  | 0, x, l => (x, l)
  | n + 1, x, l =>
    if x.e ≠ 0 ∨ s.size ≤ x.a then (x, l)
    else
      let r := rline s l x
      rreadLoop s n (if r.1.e = 0 ∧ r.1.a < s.size then rmust s r.1 10 else r.1) (l ++ [r.2])
def okByte (c : Nat) : Bool := decide (c = 9 ∨ c = 10 ∨ (32 ≤ c ∧ c ≤ 126))
def rbytes (s : ByteArray) : Nat → St → St
  | 0, x => x
  | i + 1, x => if okByte (bt s i) = true then rbytes s i x else rno (rbytes s i x) 2 i
def rread (s : ByteArray) : St × List It :=
  rreadLoop s (s.size + 1) (rbytes s s.size (if 4000 < s.size then rno ⟨0, 0, 0⟩ 1 0 else ⟨0, 0, 0⟩)) []
def lineAt (s : ByteArray) : Nat → Nat
  | 0 => 1
  | i + 1 => if bt s i = 10 then lineAt s i + 1 else lineAt s i
def rlineNo (s : ByteArray) (x : St) : Nat := if x.e = 1 ∨ x.e = 0 then 0 else lineAt s x.p
end Go.Proofs.YtdebjhdafnpfkabGreatDoor

namespace Go.Proofs.YtdebjhdafnpfkabGreatDoor
set_option linter.unusedVariables false
/-- Where the reader may be: within the text, or, if something is wrong, one behind its end. -/
def Inv (s : ByteArray) (x : St) : Prop := x.a ≤ s.size + 1 ∧ (x.e = 0 → x.a ≤ s.size)
/-- It goes on, within its bounds. -/
def Gd (s : ByteArray) (x y : St) : Prop := Inv s y ∧ x.a ≤ y.a
theorem rno_at (x : St) (k q : Nat) : (rno x k q).a = x.a := by unfold rno; split <;> rfl
theorem Gd.refl {s : ByteArray} {x : St} (h : Inv s x) : Gd s x x := ⟨h, Nat.le_refl _⟩
theorem Gd.trans {s : ByteArray} {x y z : St} (h : Gd s x y) (k : Gd s y z) : Gd s x z := ⟨k.1, Nat.le_trans h.2 k.2⟩
theorem gd_no {s : ByteArray} {x y : St} (h : Gd s x y) {k q : Nat} (hk : k ≠ 0) : Gd s x (rno y k q) := by
  refine ⟨?_, by rw [rno_at]; exact h.2⟩
  unfold rno
  split
  · exact ⟨h.1.1, fun e => absurd e hk⟩
  · exact h.1
theorem gd_step {s : ByteArray} {x y : St} (h : Gd s x y) {c : Nat} (hr : ris s y c = true) : Gd s x ⟨y.a + 1, y.e, y.p⟩ := by
  simp only [ris, decide_eq_true_eq] at hr
  refine ⟨⟨?_, fun _ => ?_⟩, ?_⟩
  · show y.a + 1 ≤ _; omega
  · show y.a + 1 ≤ _; omega
  · have := h.2; show x.a ≤ y.a + 1; omega
theorem gd_must {s : ByteArray} {x y : St} (h : Gd s x y) (c : Nat) : Gd s x (rmust s y c) := by
  unfold rmust
  split
  · rename_i hr; exact gd_step h hr
  · exact gd_no h (by decide)
theorem scan_big (p : Nat → Bool) (s : ByteArray) (a : Nat) (h : s.size ≤ a) : scan p s a = a := scan_stop _ _ _ (fun h' => by omega)
theorem gd_scan {s : ByteArray} {x y : St} (h : Gd s x y) (p : Nat → Bool) : Gd s x ⟨scan p s y.a, y.e, y.p⟩ := by
  have hg := scan_ge p s y.a
  refine ⟨⟨?_, fun he => scan_le _ _ _ (h.1.2 he)⟩, Nat.le_trans h.2 hg⟩
  show scan p s y.a ≤ _
  by_cases hl : y.a ≤ s.size
  · exact Nat.le_succ_of_le (scan_le _ _ _ hl)
  · rw [scan_big _ _ _ (by omega)]; exact h.1.1
theorem gd_blanks {s : ByteArray} {x y : St} (h : Gd s x y) (l : Bool) : Gd s x (rblanks s y l) := gd_scan h _
theorem gd_ite {s : ByteArray} {x a b : St} {c : Prop} [Decidable c] (h1 : Gd s x a) (h2 : Gd s x b) : Gd s x (if c then a else b) := by
  split
  · exact h1
  · exact h2
theorem gd_name {s : ByteArray} {x y : St} (h : Gd s x y) : Gd s x (rname s y).1 := by
  simp only [rname, rrun]
  have h1 : Gd s x ⟨scan letterB s y.a, y.e, y.p⟩ := gd_scan h _
  exact gd_ite (gd_no (gd_ite (gd_no h1 (by decide)) h1) (by decide)) (gd_ite (gd_no h1 (by decide)) h1)
theorem gd_pathLoop {s : ByteArray} {x : St} : ∀ (n : Nat) (y : St) (l : List ByteArray), Gd s x y → Gd s x (rpathLoop s n y l).1
  | 0, y, l, h => h
  | n + 1, y, l, h => by
    simp only [rpathLoop]
    split
    · rename_i hr; exact gd_pathLoop n _ _ (gd_step (gd_name h) hr)
    · exact gd_name h
theorem gd_path {s : ByteArray} {x y : St} (h : Gd s x y) : Gd s x (rpath s y).1 := by
  simp only [rpath]
  split
  · exact gd_no (gd_pathLoop _ _ _ h) (by decide)
  · exact gd_pathLoop _ _ _ h
theorem gd_wordAt {s : ByteArray} {x y : St} (h : Gd s x y) (a : Nat) (m p : Bool) : Gd s x (rwordAt s a m p y).1 := by
  have h1 : Gd s x (rrun s y).1 := gd_scan h _
  simp only [rwordAt]
  split
  · exact h1
  · split
    · exact gd_no h1 (by decide)
    · dsimp only
      split
      · exact gd_no h1 (by decide)
      · exact h1
theorem gd_word {s : ByteArray} {x y : St} (h : Gd s x y) : Gd s x (rword s y).1 := by
  simp only [rword]
  apply gd_wordAt
  split
  · rename_i hr
    rcases hr with hr | hr
    · exact gd_step h hr
    · exact gd_step h hr
  · exact h
theorem gd_textLoop {s : ByteArray} {x : St} : ∀ (n : Nat) (y : St) (t : ByteArray), Gd s x y → Gd s x (rtextLoop s n y t).1
  | 0, y, t, h => h
  | n + 1, y, t, h => by
    simp only [rtextLoop]
    split
    · exact h
    · rename_i he
      split
      · exact gd_no h (by decide)
      · rename_i hl
        have h1 : Gd s x ⟨y.a + 1, y.e, y.p⟩ := ⟨⟨by show y.a + 1 ≤ _; omega, fun _ => by show y.a + 1 ≤ _; omega⟩, Nat.le_succ_of_le h.2⟩
        split
        · exact h1
        · split
          · apply gd_textLoop
            simp only [rescSt]
            split
            · rename_i hr
              rcases hr with hr | hr | hr | hr
              · exact gd_step h1 hr
              · exact gd_step h1 hr
              · exact gd_step h1 hr
              · exact gd_step h1 hr
            · have e0 : y.e = 0 := Classical.byContradiction he
              simp only [rno, e0, if_true]
              exact ⟨⟨by show y.a + 1 + 1 ≤ _; omega, fun e => by cases e⟩, by show x.a ≤ y.a + 1 + 1; have := h.2; omega⟩
          · exact gd_textLoop n _ _ h1
theorem gd_text {s : ByteArray} {x y : St} (h : Gd s x y) : Gd s x (rtext s y).1 := gd_textLoop _ _ _ (gd_must h 34)
/-- A reader of values keeps its bounds. -/
def GdF (s : ByteArray) (f : St → St × V) : Prop := ∀ y, Inv s y → Gd s y (f y).1
theorem gd_f {s : ByteArray} {f : St → St × V} (hf : GdF s f) {x y : St} (h : Gd s x y) : Gd s x (f y).1 := h.trans (hf y h.1)
theorem gd_listLoop {s : ByteArray} {f : St → St × V} (hf : GdF s f) {x : St} : ∀ (n : Nat) (y : St) (l : List V), Gd s x y → Gd s x (rlistLoop s f n y l).1
  | 0, y, l, h => h
  | n + 1, y, l, h => by
    simp only [rlistLoop]
    split
    · exact h
    · split
      · exact gd_blanks h true
      · have h1 := gd_blanks (gd_f hf (gd_blanks h true)) true
        split
        · rename_i hr; exact gd_listLoop hf n _ _ (gd_step h1 hr)
        · exact h1
theorem gd_list {s : ByteArray} {f : St → St × V} (hf : GdF s f) {x y : St} (h : Gd s x ⟨y.a + 1, y.e, y.p⟩) : Gd s x (rlist s f y).1 := gd_must (gd_listLoop hf _ _ _ h) 93
theorem gd_member {s : ByteArray} {f : St → St × V} (hf : GdF s f) {x y : St} (m : List ByteArray) (h : Gd s x y) : Gd s x (rmember s f m y).1 := by
  simp only [rmember]
  apply gd_blanks
  apply gd_f hf
  apply gd_blanks
  apply gd_must
  apply gd_blanks
  split
  · exact gd_no (gd_name (gd_blanks h false)) (by decide)
  · exact gd_name (gd_blanks h false)
theorem gd_groupLoop {s : ByteArray} {f : St → St × V} (hf : GdF s f) {x : St} : ∀ (n : Nat) (y : St) (l : List V) (m : List ByteArray), Gd s x y → Gd s x (rgroupLoop s f n y l m).1
  | 0, y, l, m, h => h
  | n + 1, y, l, m, h => by
    simp only [rgroupLoop]
    split
    · exact h
    · have h1 := gd_member hf m h
      split
      · rename_i hr; exact gd_groupLoop hf n _ _ _ (gd_step h1 hr)
      · exact h1
theorem gd_group {s : ByteArray} {f : St → St × V} (hf : GdF s f) {x y : St} (h : Gd s x ⟨y.a + 1, y.e, y.p⟩) : Gd s x (rgroup s f y).1 := by
  simp only [rgroup]
  have h1 := gd_blanks h false
  split
  · rename_i hr; exact gd_step h1 hr
  · exact gd_must (gd_groupLoop hf _ _ _ _ h1) 125
theorem gd_val {s : ByteArray} : ∀ (d nest : Nat), GdF s (rval s d nest)
  | 0, nest, y, h => Gd.refl h
  | d + 1, nest, y, h => by
    have h0 := Gd.refl h
    simp only [rval]
    split
    · exact gd_no h0 (by decide)
    · rename_i hc
      have h1 : Gd s y ⟨y.a + 1, y.e, y.p⟩ := ⟨⟨by show y.a + 1 ≤ _; omega, fun _ => by show y.a + 1 ≤ _; omega⟩, Nat.le_succ _⟩
      split
      · exact gd_no h0 (by decide)
      · split
        · exact gd_text h0
        · split
          · exact gd_list (gd_val d (nest + 1)) h1
          · split
            · exact gd_group (gd_val d (nest + 1)) h1
            · exact gd_word h0
end Go.Proofs.YtdebjhdafnpfkabGreatDoor

namespace Go.Proofs.YtdebjhdafnpfkabGreatDoor
set_option linter.unusedVariables false
set_option linter.unusedSimpArgs false
theorem bt_end (s : ByteArray) (a : Nat) (h : s.size ≤ a) : bt s a = 0 := by unfold bt; rw [dif_neg (by omega)]
theorem ris_pk (s : ByteArray) (x : St) (c : Nat) (he : x.e = 0) (hc : c ≠ 0) : ris s x c = decide (bt s x.a = c) := by
  rw [Bool.eq_iff_iff]
  simp only [ris, decide_eq_true_eq]
  constructor
  · rintro ⟨_, _, h⟩; exact h
  · intro h
    refine ⟨he, ?_, h⟩
    rcases Nat.lt_or_ge x.a s.size with h1 | h1
    · exact h1
    · rw [bt_end s _ h1] at h; omega
theorem ris_off (s : ByteArray) (x : St) (c : Nat) (he : x.e ≠ 0) : ris s x c = false := by simp [ris, he]
theorem rno_off (x : St) (k q : Nat) (he : x.e ≠ 0) : rno x k q = x := by simp [rno, he]
theorem rno_on (x : St) (k q : Nat) (he : x.e = 0) : rno x k q = ⟨x.a, k, q⟩ := by simp [rno, he]
theorem rmust_hit (s : ByteArray) (x : St) (c : Nat) (he : x.e = 0) (hc : c ≠ 0) (h : bt s x.a = c) : rmust s x c = ⟨x.a + 1, x.e, x.p⟩ := by
  unfold rmust; rw [ris_pk s x c he hc, if_pos (by simpa using h)]
theorem rmust_miss (s : ByteArray) (x : St) (c : Nat) (he : x.e = 0) (hc : c ≠ 0) (h : bt s x.a ≠ c) : rmust s x c = ⟨x.a, 3, x.a⟩ := by
  unfold rmust; rw [ris_pk s x c he hc, if_neg (by simpa using h), rno_on x _ _ he]
theorem rmust_off (s : ByteArray) (x : St) (c : Nat) (he : x.e ≠ 0) : rmust s x c = x := by
  unfold rmust; rw [ris_off s x c he, if_neg (by simp), rno_off x _ _ he]
/-- What is wrong stays. -/
def Stk (x y : St) : Prop := x.e ≠ 0 → y.e = x.e ∧ y.p = x.p
theorem Stk.refl (x : St) : Stk x x := fun _ => ⟨rfl, rfl⟩
theorem Stk.trans {x y z : St} (h : Stk x y) (k : Stk y z) : Stk x z := fun he => by
  obtain ⟨h1, h2⟩ := h he
  obtain ⟨k1, k2⟩ := k (by rw [h1]; exact he)
  exact ⟨k1.trans h1, k2.trans h2⟩
theorem stk_no (x : St) (k q : Nat) : Stk x (rno x k q) := fun he => by rw [rno_off x k q he]; exact ⟨rfl, rfl⟩
theorem stk_must (s : ByteArray) (x : St) (c : Nat) : Stk x (rmust s x c) := fun he => by rw [rmust_off s x c he]; exact ⟨rfl, rfl⟩
theorem stk_blanks (s : ByteArray) (x : St) (l : Bool) : Stk x (rblanks s x l) := fun _ => ⟨rfl, rfl⟩
theorem stk_at (x : St) (a : Nat) : Stk x ⟨a, x.e, x.p⟩ := fun _ => ⟨rfl, rfl⟩
theorem stk_ite {x a b : St} {c : Prop} [Decidable c] (h1 : Stk x a) (h2 : Stk x b) : Stk x (if c then a else b) := by
  split
  · exact h1
  · exact h2
theorem stk_name (s : ByteArray) (x : St) : Stk x (rname s x).1 := by
  simp only [rname, rrun]
  have h1 : Stk x ⟨scan letterB s x.a, x.e, x.p⟩ := stk_at _ _
  exact stk_ite ((stk_ite (h1.trans (stk_no _ _ _)) h1).trans (stk_no _ _ _)) (stk_ite (h1.trans (stk_no _ _ _)) h1)
theorem stk_pathLoop (s : ByteArray) : ∀ (n : Nat) (x : St) (l : List ByteArray), Stk x (rpathLoop s n x l).1
  | 0, x, l => Stk.refl x
  | n + 1, x, l => by
    simp only [rpathLoop]
    split
    · exact ((stk_name s x).trans (stk_at _ _)).trans (stk_pathLoop s n _ _)
    · exact stk_name s x
/-- A path as text. -/
def dotS : ByteArray := ⟨#[46]⟩
def jn : List ByteArray → ByteArray
  | [] => ⟨#[]⟩
  | [n] => n
  | n :: m :: r => n ++ dotS ++ jn (m :: r)
theorem jn_snoc (n : ByteArray) : ∀ l : List ByteArray, l ≠ [] → jn (l ++ [n]) = jn l ++ dotS ++ n
  | [], h => absurd rfl h
  | [m], _ => rfl
  | m :: k :: r, _ => by
    show m ++ dotS ++ jn (k :: r ++ [n]) = m ++ dotS ++ jn (k :: r) ++ dotS ++ n
    rw [jn_snoc n (k :: r) (by simp)]
    simp only [ByteArray.append_assoc]
theorem ext_glue (s : ByteArray) (a b c : Nat) (h1 : a ≤ b) (h2 : b ≤ c) : s.extract a c = s.extract a b ++ s.extract b c := by
  rw [ByteArray.extract_append_extract, Nat.min_eq_left h1, Nat.max_eq_right h2]
theorem ext_one (s : ByteArray) (a : Nat) (h : bt s a = 46) : s.extract a (a + 1) = dotS := by
  have hl : a < s.size := by
    rcases Nat.lt_or_ge a s.size with h1 | h1
    · exact h1
    · rw [bt_end s _ h1] at h; omega
  apply ByteArray.ext_getElem
  · rw [ByteArray.size_extract]; show _ = 1; omega
  · intro i hi hi'
    have e : i = 0 := by
      have : i < 1 := hi'
      omega
    subst e
    rw [ByteArray.getElem_extract]
    have e1 := bt_in s a hl
    rw [h] at e1
    show s[a] = (46 : UInt8)
    exact UInt8.toNat_inj.1 e1
theorem size_ext (s : ByteArray) (a b : Nat) (h : b ≤ s.size) : (s.extract a b).size = b - a := by rw [ByteArray.size_extract]; omega
theorem ext_self (s : ByteArray) (a : Nat) : s.extract a a = ⟨#[]⟩ := by
  have := (ByteArray.extract_eq_empty_iff (b := s) (i := a) (j := a)).2 (by omega)
  exact this
theorem size_zero (t : ByteArray) (h : t.size = 0) : t = ⟨#[]⟩ := by
  apply ByteArray.ext_getElem h
  intro i hi
  omega
theorem rname_eq (s : ByteArray) (x : St) (he : x.e = 0) (hx : x.a ≤ s.size) : rname s x =
    (if scan letterB s x.a = x.a then ⟨x.a, 3, x.a⟩ else if 20 < scan letterB s x.a - x.a then ⟨scan letterB s x.a, 4, x.a⟩ else ⟨scan letterB s x.a, x.e, x.p⟩, s.extract x.a (scan letterB s x.a)) := by
  have h1 := scan_ge letterB s x.a
  have h2 := scan_le letterB s x.a hx
  simp only [rname, rrun, size_ext _ _ _ h2]
  generalize scan letterB s x.a = y at *
  by_cases hy : y = x.a
  · subst hy
    rw [if_neg (by omega), if_pos (by omega), if_pos rfl, rno_on (⟨x.a, x.e, x.p⟩ : St) _ _ he]
  · rw [if_neg hy, if_neg (by omega : ¬ y - x.a = 0)]
    by_cases h20 : 20 < y - x.a
    · rw [if_pos h20, if_pos h20, rno_on (⟨y, x.e, x.p⟩ : St) _ _ he]
    · rw [if_neg h20, if_neg h20]
end Go.Proofs.YtdebjhdafnpfkabGreatDoor

namespace Go.Proofs.YtdebjhdafnpfkabGreatDoor
set_option linter.unusedVariables false
set_option linter.unusedSimpArgs false
/-- One letter of a text. -/
def rletter (s : ByteArray) (y : St) : St × Nat :=
  if s.size ≤ y.a ∨ bt s y.a < 32 then (rno y 3 y.a, 0)
  else if bt s y.a = 92 then (⟨(rescSt s ⟨y.a + 1, y.e, y.p⟩).a + 1, (rescSt s ⟨y.a + 1, y.e, y.p⟩).e, (rescSt s ⟨y.a + 1, y.e, y.p⟩).p⟩, resc s ⟨y.a + 1, y.e, y.p⟩)
  else (⟨y.a + 1, y.e, y.p⟩, bt s y.a)
theorem textLoop_off (s : ByteArray) (n : Nat) (y : St) (t : ByteArray) (he : y.e ≠ 0) : rtextLoop s n y t = (y, t) := by
  cases n with
  | zero => rfl
  | succ n => simp only [rtextLoop, if_pos he]
theorem textLoop_letter (s : ByteArray) (n : Nat) (y : St) (t : ByteArray) (he : y.e = 0) (hq : bt s y.a ≠ 34) (hok : (rletter s y).1.e = 0) :
    rtextLoop s (n + 1) y t = rtextLoop s n (rletter s y).1 (put t (rletter s y).2) := by
  unfold rletter at *
  simp only [rtextLoop]
  rw [if_neg (by simp [he])]
  by_cases h1 : s.size ≤ y.a ∨ bt s y.a < 32
  · rw [if_pos h1, rno_on _ _ _ he] at hok; cases hok
  · rw [if_neg h1, if_neg h1, if_neg hq]
    by_cases h2 : bt s y.a = 92
    · rw [if_pos h2, if_pos h2]
    · rw [if_neg h2, if_neg h2]
theorem textLoop_bad (s : ByteArray) (n : Nat) (y : St) (t : ByteArray) (he : y.e = 0) (hq : bt s y.a ≠ 34) (hok : (rletter s y).1.e ≠ 0) :
    (rtextLoop s (n + 1) y t).1 = (rletter s y).1 := by
  unfold rletter at *
  simp only [rtextLoop]
  rw [if_neg (by simp [he])]
  by_cases h1 : s.size ≤ y.a ∨ bt s y.a < 32
  · rw [if_pos h1, if_pos h1]
  · rw [if_neg h1, if_neg h1, if_neg hq]
    rw [if_neg h1] at hok
    by_cases h2 : bt s y.a = 92
    · rw [if_pos h2] at hok
      rw [if_pos h2, if_pos h2, textLoop_off _ _ _ _ hok]
    · rw [if_neg h2] at hok
      exact absurd he hok
theorem textLoop_end (s : ByteArray) (n : Nat) (y : St) (t : ByteArray) (he : y.e = 0) (hq : bt s y.a = 34) : rtextLoop s (n + 1) y t = (⟨y.a + 1, y.e, y.p⟩, t) := by
  have hl : ¬ (s.size ≤ y.a ∨ bt s y.a < 32) := by
    rintro (h | h)
    · rw [bt_end s _ h] at hq; omega
    · omega
  simp only [rtextLoop]
  rw [if_neg (by simp [he]), if_neg hl, if_pos hq]
def escB (c : Nat) : Bool := decide (c = 92 ∨ c = 34 ∨ c = 110 ∨ c = 116)
def escN (c : Nat) : Nat := if c = 92 then 92 else if c = 34 then 34 else if c = 110 then 10 else if c = 116 then 9 else 92
theorem resc_eq (s : ByteArray) (x : St) (he : x.e = 0) : resc s x = escN (bt s x.a) := by
  unfold resc escN
  rw [ris_pk s x 92 he (by decide), ris_pk s x 34 he (by decide), ris_pk s x 110 he (by decide), ris_pk s x 116 he (by decide)]
  simp only [decide_eq_true_eq]
theorem rescSt_ok (s : ByteArray) (x : St) (he : x.e = 0) (h : escB (bt s x.a) = true) : rescSt s x = x := by
  unfold rescSt
  rw [ris_pk s x 92 he (by decide), ris_pk s x 34 he (by decide), ris_pk s x 110 he (by decide), ris_pk s x 116 he (by decide)]
  simp only [escB, decide_eq_true_eq] at h ⊢
  rw [if_pos h]
theorem rescSt_bad (s : ByteArray) (x : St) (he : x.e = 0) (h : escB (bt s x.a) = false) : rescSt s x = ⟨x.a, 3, x.a⟩ := by
  unfold rescSt
  rw [ris_pk s x 92 he (by decide), ris_pk s x 34 he (by decide), ris_pk s x 110 he (by decide), ris_pk s x 116 he (by decide)]
  simp only [escB, decide_eq_true_eq, decide_eq_false_iff_not] at h ⊢
  rw [if_neg h, rno_on _ _ _ he]
end Go.Proofs.YtdebjhdafnpfkabGreatDoor
