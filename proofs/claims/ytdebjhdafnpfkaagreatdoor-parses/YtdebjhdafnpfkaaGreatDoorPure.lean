import GoSem.ClaimJoined
namespace Go.Proofs.YtdebjhdafnpfkaaGreatDoor
set_option linter.unusedVariables false

/-- The byte at a place, as a number; 0 behind the end. -/
def bt (s : ByteArray) (i : Nat) : Nat := if h : i < s.size then s[i].toNat else 0

theorem bt_in (s : ByteArray) (i : Nat) (h : i < s.size) : s[i].toNat = bt s i := by simp [bt, h]
theorem bt_lt (s : ByteArray) (i : Nat) : bt s i < 256 := by
  unfold bt
  split
  · exact UInt8.toNat_lt _
  · omega

/-- How far bytes go on that are of a kind. -/
def skip (p : Nat → Bool) (s : ByteArray) : Nat → Nat → Nat
  | 0, a => a
  | n + 1, a => if a < s.size ∧ p (bt s a) = true then skip p s n (a + 1) else a
def scan (p : Nat → Bool) (s : ByteArray) (a : Nat) : Nat := skip p s (s.size - a) a

theorem skip_ge (p : Nat → Bool) (s : ByteArray) : ∀ n a, a ≤ skip p s n a
  | 0, a => Nat.le_refl _
  | n + 1, a => by
    unfold skip
    split
    · exact Nat.le_trans (Nat.le_succ a) (skip_ge p s n (a + 1))
    · exact Nat.le_refl _
theorem skip_le (p : Nat → Bool) (s : ByteArray) : ∀ n a, a ≤ s.size → skip p s n a ≤ s.size
  | 0, a, h => h
  | n + 1, a, h => by
    unfold skip
    split
    · rename_i hc; exact skip_le p s n (a + 1) (by omega)
    · exact h
theorem scan_ge (p : Nat → Bool) (s : ByteArray) (a : Nat) : a ≤ scan p s a := skip_ge _ _ _ _
theorem scan_le (p : Nat → Bool) (s : ByteArray) (a : Nat) (h : a ≤ s.size) : scan p s a ≤ s.size := skip_le _ _ _ _ h
theorem scan_step (p : Nat → Bool) (s : ByteArray) (a : Nat) (h : a < s.size) (hp : p (bt s a) = true) : scan p s a = scan p s (a + 1) := by
  unfold scan
  obtain ⟨n, hn⟩ : ∃ n, s.size - a = n + 1 := ⟨s.size - a - 1, by omega⟩
  rw [hn]
  have e : s.size - (a + 1) = n := by omega
  rw [e]
  show (if a < s.size ∧ p (bt s a) = true then skip p s n (a + 1) else a) = _
  rw [if_pos ⟨h, hp⟩]
theorem scan_stop (p : Nat → Bool) (s : ByteArray) (a : Nat) (hp : a < s.size → p (bt s a) = false) : scan p s a = a := by
  unfold scan
  cases hn : s.size - a with
  | zero => rfl
  | succ n =>
    show (if a < s.size ∧ p (bt s a) = true then skip p s n (a + 1) else a) = _
    rw [if_neg]
    rintro ⟨h, h2⟩
    rw [hp h] at h2
    cases h2

/-- What the document's reader knows of its place: where it is, what is wrong, and where. -/
structure St where
  a : Nat
  e : Nat
  p : Nat

def rno (x : St) (k q : Nat) : St := if x.e = 0 then ⟨x.a, k, q⟩ else x
def ris (s : ByteArray) (x : St) (c : Nat) : Bool := decide (x.e = 0 ∧ x.a < s.size ∧ bt s x.a = c)
def rmust (s : ByteArray) (x : St) (c : Nat) : St := if ris s x c = true then ⟨x.a + 1, x.e, x.p⟩ else rno x 3 x.a
def blankB (list : Bool) (c : Nat) : Bool := decide (c = 32 ∨ c = 9 ∨ (list = true ∧ c = 10))
def rblanks (s : ByteArray) (x : St) (list : Bool) : St := ⟨scan (blankB list) s x.a, x.e, x.p⟩
def letterB (c : Nat) : Bool := decide ((97 ≤ c ∧ c ≤ 122) ∨ (65 ≤ c ∧ c ≤ 90) ∨ (48 ≤ c ∧ c ≤ 57) ∨ c = 95 ∨ c = 45)
def rrun (s : ByteArray) (x : St) : St × ByteArray := (⟨scan letterB s x.a, x.e, x.p⟩, s.extract x.a (scan letterB s x.a))
def rname (s : ByteArray) (x : St) : St × ByteArray :=
  let r := rrun s x
  let x1 := if r.2.size = 0 then rno r.1 3 x.a else r.1
  (if 20 < r.2.size then rno x1 4 x.a else x1, r.2)
end Go.Proofs.YtdebjhdafnpfkaaGreatDoor
