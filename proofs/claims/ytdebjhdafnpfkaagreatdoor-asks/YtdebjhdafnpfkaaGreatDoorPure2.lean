import Derived.Test.YtdebjhdafnpfkaaGreatDoorPure
namespace Go.Proofs.YtdebjhdafnpfkaaGreatDoor
set_option linter.unusedVariables false

/-- A value: 110 a number, 98 a truth, 115 a text, 108 a list, 103 a group. -/
structure V where
  k : Nat
  n : Int
  s : ByteArray
  l : List V
  m : List ByteArray

def V0 : V := ⟨0, 0, ⟨#[]⟩, [], []⟩

def rpathLoop (s : ByteArray) : Nat → St → List ByteArray → St × List ByteArray
  | 0, x, l => (x, l)
  | n + 1, x, l =>
    if ris s (rname s x).1 46 = true then rpathLoop s n ⟨(rname s x).1.a + 1, (rname s x).1.e, (rname s x).1.p⟩ (l ++ [(rname s x).2])
    else ((rname s x).1, l ++ [(rname s x).2])
def rpath (s : ByteArray) (x : St) : St × List ByteArray :=
  let r := rpathLoop s (s.size + 1 - x.a) x []
  (if 4 < r.2.length then rno r.1 4 x.a else r.1, r.2)

def okDigit (t : ByteArray) (i : Nat) : Bool := decide ((48 ≤ bt t i ∧ bt t i ≤ 57) ∨ (bt t i = 95 ∧ i ≠ 0 ∧ i + 1 ≠ t.size ∧ bt t (i + 1) ≠ 95))
def okDigits (t : ByteArray) : Nat → Bool
  | 0 => true
  | n + 1 => okDigits t n && okDigit t n
def rnumber (t : ByteArray) : Bool := decide (t.size ≠ 0 ∧ ¬ (1 < t.size ∧ bt t 0 = 48)) && okDigits t t.size

def rdig (t : ByteArray) : Nat → Int
  | 0 => 0
  | i + 1 => if bt t i ≠ 95 ∧ rdig t i ≤ 999999999999999 then 10 * rdig t i + bt t i - 48 else rdig t i

def trueS : ByteArray := ⟨#[116, 114, 117, 101]⟩
def falseS : ByteArray := ⟨#[102, 97, 108, 115, 101]⟩

/-- Behind the sign. -/
def rwordAt (s : ByteArray) (at0 : Nat) (minus plus : Bool) (x1 : St) : St × V :=
  let r := rrun s x1
  if minus = false ∧ plus = false ∧ (r.2 = trueS ∨ r.2 = falseS) then (r.1, ⟨98, if r.2 = trueS then 1 else 0, ⟨#[]⟩, [], []⟩)
  else if rnumber r.2 = false then (rno r.1 3 at0, V0)
  else (if 999999999999999 < rdig r.2 r.2.size then rno r.1 4 at0 else r.1, ⟨110, if minus = true then - rdig r.2 r.2.size else rdig r.2 r.2.size, ⟨#[]⟩, [], []⟩)
def rword (s : ByteArray) (x : St) : St × V :=
  let minus := ris s x 45
  let plus := ris s x 43
  rwordAt s x.a minus plus (if minus = true ∨ plus = true then ⟨x.a + 1, x.e, x.p⟩ else x)

def put (t : ByteArray) (c : Nat) : ByteArray := t ++ ⟨#[UInt8.ofNat c]⟩

/-- What an escaped byte means; 92: the byte itself, or no escape. -/
def resc (s : ByteArray) (x : St) : Nat := if ris s x 92 = true then 92 else if ris s x 34 = true then 34 else if ris s x 110 = true then 10 else if ris s x 116 = true then 9 else 92
def rescSt (s : ByteArray) (x : St) : St := if ris s x 92 = true ∨ ris s x 34 = true ∨ ris s x 110 = true ∨ ris s x 116 = true then x else rno x 3 x.a

def rtextLoop (s : ByteArray) : Nat → St → ByteArray → St × ByteArray
  | 0, x, t => (x, t)
  | n + 1, x, t =>
    if x.e ≠ 0 then (x, t)
    else if s.size ≤ x.a ∨ bt s x.a < 32 then (rno x 3 x.a, t)
    else if bt s x.a = 34 then (⟨x.a + 1, x.e, x.p⟩, t)
    else if bt s x.a = 92 then
      rtextLoop s n ⟨(rescSt s ⟨x.a + 1, x.e, x.p⟩).a + 1, (rescSt s ⟨x.a + 1, x.e, x.p⟩).e, (rescSt s ⟨x.a + 1, x.e, x.p⟩).p⟩ (put t (resc s ⟨x.a + 1, x.e, x.p⟩))
    else rtextLoop s n ⟨x.a + 1, x.e, x.p⟩ (put t (bt s x.a))
def rtext (s : ByteArray) (x : St) : St × V :=
  let r := rtextLoop s (s.size + 3 - x.a) (rmust s x 34) ⟨#[]⟩
  (r.1, ⟨115, 0, r.2, [], []⟩)

def rlistLoop (s : ByteArray) (f : St → St × V) : Nat → St → List V → St × List V
  | 0, x, l => (x, l)
  | n + 1, x, l =>
    if x.e ≠ 0 then (x, l)
    else if ris s (rblanks s x true) 93 = true then (rblanks s x true, l)
    else
      let r := f (rblanks s x true)
      let y := rblanks s r.1 true
      if ris s y 44 = true then rlistLoop s f n ⟨y.a + 1, y.e, y.p⟩ (l ++ [r.2]) else (y, l ++ [r.2])
def rlist (s : ByteArray) (f : St → St × V) (x : St) : St × V :=
  let r := rlistLoop s f (s.size + 3 - x.a) ⟨x.a + 1, x.e, x.p⟩ []
  (rmust s r.1 93, ⟨108, 0, ⟨#[]⟩, r.2, []⟩)

def has (m : List ByteArray) (nm : ByteArray) : Bool := m.any fun k => decide (k = nm)
/-- A group's one pair: up to what stands behind its value. -/
def rmember (s : ByteArray) (f : St → St × V) (m : List ByteArray) (x : St) : St × V × ByteArray :=
  let x1 := rblanks s x false
  let nm := rname s x1
  let x3 := if has m nm.2 = true then rno nm.1 6 x1.a else nm.1
  let r := f (rblanks s (rmust s (rblanks s x3 false) 61) false)
  (rblanks s r.1 false, r.2, nm.2)
def rgroupLoop (s : ByteArray) (f : St → St × V) : Nat → St → List V → List ByteArray → St × List V × List ByteArray
  | 0, x, l, m => (x, l, m)
  | n + 1, x, l, m =>
    if x.e ≠ 0 then (x, l, m)
    else
      let r := rmember s f m x
      if ris s r.1 44 = true then rgroupLoop s f n ⟨r.1.a + 1, r.1.e, r.1.p⟩ (l ++ [r.2.1]) (m ++ [r.2.2]) else (r.1, l ++ [r.2.1], m ++ [r.2.2])
def rgroup (s : ByteArray) (f : St → St × V) (x : St) : St × V :=
  let x1 := rblanks s ⟨x.a + 1, x.e, x.p⟩ false
  if ris s x1 125 = true then (⟨x1.a + 1, x1.e, x1.p⟩, ⟨103, 0, ⟨#[]⟩, [], []⟩)
  else
    let r := rgroupLoop s f (s.size + 3 - x.a) x1 [] []
    (rmust s r.1 125, ⟨103, 0, ⟨#[]⟩, r.2.1, r.2.2⟩)

def rval (s : ByteArray) : Nat → Nat → St → St × V
  | 0, _, x => (x, V0)
  | d + 1, nest, x =>
    if x.e ≠ 0 ∨ s.size ≤ x.a then (rno x 3 x.a, V0)
    else if (bt s x.a = 91 ∨ bt s x.a = 123) ∧ 6 ≤ nest then (rno x 5 x.a, V0)
    else if bt s x.a = 34 then rtext s x
    else if bt s x.a = 91 then rlist s (rval s d (nest + 1)) x
    else if bt s x.a = 123 then rgroup s (rval s d (nest + 1)) x
    else rword s x

/-- What stands in a line: 32 nothing, 35 a remark alone, 91 a header, 61 a pair. -/
structure It where
  k : Nat
  path : List ByteArray
  full : List ByteArray
  v : V
  rem : ByteArray

def rstarts (path with_ : List ByteArray) : Bool := decide (with_.length ≤ path.length ∧ path.take with_.length = with_)
def rclash (x o : It) : Bool :=
  (decide (x.k = 91 ∧ o.k = 91 ∧ x.path.length = o.path.length) && rstarts x.path o.path)
  || (decide (x.k = 91 ∧ o.k = 61) && rstarts x.path o.full)
  || (decide (x.k = 61 ∧ o.k = 61) && (rstarts x.full o.full || rstarts o.full x.full))
  || (decide (x.k = 61 ∧ o.k = 91) && rstarts o.path x.full)
def rtwice (items : List It) (x : It) : Bool := items.any (rclash x)
def rtable (items : List It) : List ByteArray :=
  match items.reverse.find? (fun o => decide (o.k = 91)) with
  | some o => o.path
  | none => []

def ritem (s : ByteArray) (items : List It) (x : St) : St × It :=
  if ris s x 91 = true then
    let r := rpath s (rblanks s ⟨x.a + 1, x.e, x.p⟩ false)
    let y := rmust s (rblanks s r.1 false) 93
    let t : It := ⟨91, r.2, [], V0, ⟨#[]⟩⟩
    (if y.e = 0 ∧ rtwice items t = true then rno y 6 x.a else y, t)
  else
    let r := rpath s x
    let f := rval s 7 0 (rblanks s (rmust s (rblanks s r.1 false) 61) false)
    let t : It := ⟨61, r.2, rtable items ++ r.2, f.2, ⟨#[]⟩⟩
    (if f.1.e = 0 ∧ rtwice items t = true then rno f.1 6 x.a else f.1, t)

def inLine (c : Nat) : Bool := decide (c ≠ 10)
def rline (s : ByteArray) (items : List It) (x : St) : St × It :=
  let x1 := rblanks s x false
  if s.size ≤ x1.a ∨ bt s x1.a = 10 then (x1, ⟨32, [], [], V0, ⟨#[]⟩⟩)
  else
    let r := if ris s x1 35 = true then (x1, ⟨35, [], [], V0, ⟨#[]⟩⟩) else (rblanks s (ritem s items x1).1 false, (ritem s items x1).2)
    if ris s r.1 35 = true then (⟨scan inLine s r.1.a, r.1.e, r.1.p⟩, ⟨r.2.k, r.2.path, r.2.full, r.2.v, s.extract r.1.a (scan inLine s r.1.a)⟩)
    else r

def rreadLoop (s : ByteArray) : Nat → St → List It → St × List It
  | 0, x, l => (x, l)
  | n + 1, x, l =>
    if x.e ≠ 0 ∨ s.size ≤ x.a then (x, l)
    else
      let r := rline s l x
      rreadLoop s n (if r.1.e = 0 ∧ r.1.a < s.size then rmust s r.1 10 else r.1) (l ++ [r.2])

def okByte (c : Nat) : Bool := decide (c = 9 ∨ c = 10 ∨ (32 ≤ c ∧ c ≤ 126))
def rbytes (s : ByteArray) : Nat → St → St
  | 0, x => x
  | i + 1, x => if okByte (bt s i) = true then rbytes s i x else rno (rbytes s i x) 2 i
def rread (s : ByteArray) : St × List It :=
  rreadLoop s (s.size + 1) (rbytes s s.size (if 4000 < s.size then rno ⟨0, 0, 0⟩ 1 0 else ⟨0, 0, 0⟩)) []

def lineAt (s : ByteArray) : Nat → Nat
  | 0 => 1
  | i + 1 => if bt s i = 10 then lineAt s i + 1 else lineAt s i
def rlineNo (s : ByteArray) (x : St) : Nat := if x.e = 1 ∨ x.e = 0 then 0 else lineAt s x.p
end Go.Proofs.YtdebjhdafnpfkaaGreatDoor
