import Derived.Test.YtdebjhdafnpfkabGreatDoorK26
import Derived.Test.YtdebjhdafnpfkabGreatDoorK03
import Derived.Below
namespace Go.Proofs.YtdebjhdafnpfkabGreatDoor
set_option linter.unusedVariables false
set_option linter.unusedSimpArgs false
def OkB (t : ByteArray) : Prop := ∀ c ∈ bl t, okByte c = true
theorem OkB.app {t u : ByteArray} (h1 : OkB t) (h2 : OkB u) : OkB (t ++ u) := by
  intro c hc
  rw [bl_app, List.mem_append] at hc
  exact hc.elim (h1 c) (h2 c)
theorem okB_lit (t : ByteArray) (h : (bl t).all okByte = true) : OkB t := fun c hc => List.all_eq_true.1 h c hc
theorem okB_dig (n : Nat) (hn : n < 10000000000000000000) : OkB (dgtB n) := fun c hc => by
  have := dig_all n hn c hc
  unfold digC at this
  unfold okByte
  simp
  omega
theorem okB_ext {t : ByteArray} (h : OkB t) (a b : Nat) (hb : b ≤ t.size) (hab : a ≤ b) : OkB (t.extract a b) := fun c hc => by
  rw [bl_ext _ _ _ hb hab] at hc
  exact h c (List.mem_of_mem_drop (List.mem_of_mem_take hc))
theorem okB_od (n : Nat) (hn : n < 10000000000000000000) : OkB (odB n) := by
  unfold odB
  split
  · exact ((okB_ext (okB_dig n hn) _ _ (by omega) (by omega)).app (okB_lit _ (by decide))).app (okB_ext (okB_dig n hn) _ _ (Nat.le_refl _) (by omega))
  · exact okB_dig n hn
theorem okB_wes : ∀ k, k < 12 → (bl (wes k)).all okByte = true := by decide +kernel
theorem okB_wLoop : ∀ (f c : Nat) (s w : ByteArray), OkB w → OkB (wLoop f c s w).2
  | 0, c, s, w, h => h
  | f + 1, c, s, w, h => by
    unfold wLoop
    split
    · exact h
    · exact okB_wLoop f _ _ _ (h.app (okB_lit _ (okB_wes _ (Nat.mod_lt _ (by decide)))))
theorem okB_word (c : Int) : OkB (wordW c) := (okB_wLoop _ _ _ _ (okB_lit _ (by decide))).app (okB_lit _ (by decide))
theorem numN_lt (c : Int) : numN c < 2000000 := pk_lt c 2000000 (by decide)
theorem okB_truth (c : Int) : OkB (if pk c 2 = 0 then falseS else trueS) := by
  split
  · exact okB_lit _ (by decide)
  · exact okB_lit _ (by decide)
theorem okB_oneP (k : Nat) (c : Int) : OkB (oneP k c) := by
  have hn := numN_lt c
  unfold oneP
  split
  · unfold numP
    split
    · exact (okB_lit _ (by decide)).app (okB_dig _ (by omega))
    · exact okB_dig _ (by omega)
  · split
    · exact okB_truth c
    · exact okB_word c
theorem okB_oneO (k : Nat) (c : Int) : OkB (oneO k c) := by
  have hn := numN_lt c
  unfold oneO
  split
  · unfold numO
    exact (okB_lit _ (by split <;> decide)).app (okB_od _ (by omega))
  · split
    · exact okB_truth c
    · exact okB_word c
theorem okB_lstO {g : Nat → ByteArray} (h : ∀ i, OkB (g i)) : ∀ n, OkB (lstO g n)
  | 0 => okB_lit ⟨#[91, 32, 10]⟩ (by decide)
  | n + 1 => ((okB_lstO h n).app (h n)).app (okB_lit _ (by decide))
theorem okB_lstP {g : Nat → ByteArray} (h : ∀ i, OkB (g i)) : ∀ n, OkB (lstP g n)
  | 0 => okB_lit ⟨#[91]⟩ (by decide)
  | n + 1 => by
    unfold lstP
    split
    · exact ((okB_lstP h n).app (okB_lit _ (by decide))).app (h n)
    · exact (okB_lstP h n).app (h n)
theorem okB_thP (c : Int) : OkB (thP c) := by
  unfold thP
  split
  · exact (okB_lstP (fun i => okB_oneP _ _) _).app (okB_lit _ (by decide))
  · exact okB_oneP _ _
theorem okB_thO (c : Int) : OkB (thO c) := by
  unfold thO
  split
  · exact (okB_lstO (fun i => okB_oneO _ _) _).app (okB_lit _ (by decide))
  · exact okB_oneO _ _
theorem okB_nm (i : Nat) (c : Int) (h : i < 20) : OkB (nmB i c) := fun d hd => by
  have := (mnm_ok i c h).let_ d hd
  unfold letterB at this
  unfold okByte
  simp at this ⊢
  omega
/-- What a raw number puts ahead of its pair. -/
def hk (c : Int) : Nat := pk (c.tdiv 1000) 6
def hdP (i : Nat) (c : Int) : ByteArray := if hk c = 0 then ⟨#[91, 116]⟩ ++ dgtB i ++ ⟨#[93, 10]⟩ else if hk c = 1 then ⟨#[10]⟩ else if hk c = 2 then ⟨#[35, 32, 114]⟩ ++ dgtB i ++ ⟨#[10]⟩ else ⟨#[]⟩
def hdO (i : Nat) (c : Int) : ByteArray := if hk c = 0 then ⟨#[9, 91, 32, 116]⟩ ++ dgtB i ++ ⟨#[9, 93, 32, 10]⟩ else if hk c = 1 then ⟨#[32, 9, 10, 10]⟩ else if hk c = 2 then ⟨#[32, 32, 35, 114]⟩ ++ dgtB i ++ ⟨#[32, 9, 10]⟩ else ⟨#[]⟩
def bIt : It := ⟨32, [], [], V0, ⟨#[]⟩⟩
def hIt (i : Nat) : It := ⟨91, [tbB i], [], V0, ⟨#[]⟩⟩
def rIt (r : ByteArray) : It := ⟨35, [], [], V0, r⟩
def hiP (i : Nat) (c : Int) : List It := if hk c = 0 then [hIt i] else if hk c = 1 then [bIt] else if hk c = 2 then [rIt (⟨#[35, 32, 114]⟩ ++ dgtB i)] else []
def hiO (i : Nat) (c : Int) : List It := if hk c = 0 then [hIt i] else if hk c = 1 then [bIt, bIt] else if hk c = 2 then [rIt (⟨#[35, 114]⟩ ++ dgtB i ++ ⟨#[32, 9]⟩)] else []
/-- Its remark. -/
def rk (c : Int) : Bool := decide (pk (c.tdiv 77) 4 = 0)
def rmP (i : Nat) (c : Int) : ByteArray := if rk c = true then ⟨#[35, 32, 115]⟩ ++ dgtB i else ⟨#[]⟩
def rmO (i : Nat) (c : Int) : ByteArray := if rk c = true then ⟨#[35, 115]⟩ ++ dgtB i ++ ⟨#[32, 32, 32]⟩ else ⟨#[]⟩
def prP (i : Nat) (c : Int) : ByteArray := nmB i c ++ ⟨#[32, 61, 32]⟩ ++ thP (c.tdiv 11) ++ (if rk c = true then ⟨#[32, 35, 32, 115]⟩ ++ dgtB i else ⟨#[]⟩) ++ ⟨#[10]⟩
def prO (i : Nat) (c : Int) : ByteArray := ⟨#[9, 32]⟩ ++ nmB i c ++ ⟨#[61]⟩ ++ thO (c.tdiv 11) ++ (if rk c = true then ⟨#[35, 115]⟩ ++ dgtB i ++ ⟨#[32, 32]⟩ else ⟨#[]⟩) ++ ⟨#[32, 10]⟩
def pIt (tab : List ByteArray) (i : Nat) (c : Int) (r : ByteArray) : It := ⟨61, [nmB i c], tab ++ [nmB i c], thV (c.tdiv 11), r⟩
def tabN (i : Nat) (c : Int) (tab : List ByteArray) : List ByteArray := if hk c = 0 then [tbB i] else tab
def rw_ (raw : List Int) (i : Nat) : Int := raw.getD i 0
def tabAt (raw : List Int) : Nat → List ByteArray
  | 0 => []
  | k + 1 => tabN k (rw_ raw k) (tabAt raw k)
def mkP (raw : List Int) : Nat → ByteArray
  | 0 => ⟨#[]⟩
  | k + 1 => mkP raw k ++ (hdP k (rw_ raw k) ++ prP k (rw_ raw k))
def mkO (raw : List Int) : Nat → ByteArray
  | 0 => ⟨#[]⟩
  | k + 1 => mkO raw k ++ (hdO k (rw_ raw k) ++ prO k (rw_ raw k))
def itP (raw : List Int) : Nat → List It
  | 0 => []
  | k + 1 => itP raw k ++ (hiP k (rw_ raw k) ++ [pIt (tabAt raw (k + 1)) k (rw_ raw k) (rmP k (rw_ raw k))])
def itO (raw : List Int) : Nat → List It
  | 0 => []
  | k + 1 => itO raw k ++ (hiO k (rw_ raw k) ++ [pIt (tabAt raw (k + 1)) k (rw_ raw k) (rmO k (rw_ raw k))])
theorem dig_ne10 {i : Nat} (hi : i < 20) : ∀ c ∈ bl (dgtB i), c ≠ 10 := fun c hc => by
  have := dig_all i (by omega) c hc
  unfold digC at this
  omega
theorem chunk_head {i : Nat} (hi : i < 20) {t : ByteArray} {b1 b2 b3 b4 : List Nat} (h1 : isBl b1) (h2 : isBl b2) (h3 : isBl b3) (h4 : isBl b4) (e : bl t = b1 ++ (91 :: (b2 ++ (bl (tbB i) ++ (b3 ++ (93 :: (b4 ++ [10]))))))) {l : List It} {q : Nat} (hl : ∀ o ∈ l, MItOk i q o) : Chunk t l [hIt i] := by
  refine chunk_of (by rw [← bl_len, e]; simp; omega) (fun s a r hr => ?_)
  rw [e] at hr
  have hr1 : Rest s a (b1 ++ (91 :: (b2 ++ (bl (tbB i) ++ (b3 ++ (93 :: (b4 ++ (10 :: r)))))))) := by simpa using hr
  obtain ⟨q1, g1, g2⟩ := mitem_head (tb_ok i hi) h2 h3 (rest_app hr1) l (twice_head hi hl)
  exact line_item h1 hr1 (by decide) l (hIt i) q1 g1 rfl (.inl rfl) (R := ⟨#[]⟩) h4 g2
theorem chunk_pair {i : Nat} (hi : i < 20) {c : Int} {w R t : ByteArray} (hw : Reads2 w (thV (c.tdiv 11))) (hR : RemOk R) {b1 b2 b3 b4 : List Nat} (h1 : isBl b1) (h2 : isBl b2) (h3 : isBl b3) (h4 : isBl b4)
    (e : bl t = b1 ++ (bl (nmB i c) ++ (b2 ++ (61 :: (b3 ++ (bl w ++ (b4 ++ (bl R ++ [10])))))))) {l : List It} {h0 : Nat} {tab : List ByteArray} (ht : rtable l = tab) (ht2 : tab = [] ∨ ∃ m, m < 20 ∧ tab = [tbB m]) (hl : ∀ o ∈ l, MItOk h0 i o) : Chunk t l [pIt tab i c R] := by
  refine chunk_of (by rw [← bl_len, e]; simp; omega) (fun s a r hr => ?_)
  rw [e] at hr
  have hr1 : Rest s a (b1 ++ (bl (nmB i c) ++ (b2 ++ (61 :: (b3 ++ (bl w ++ (b4 ++ (bl R ++ 10 :: r)))))))) := by simpa using hr
  have hst : stopAt letterB (b4 ++ (bl R ++ 10 :: r)) := by
    obtain ⟨d, t2, e2, hd⟩ : ∃ d t2, bl R ++ 10 :: r = d :: t2 ∧ (d = 35 ∨ d = 10) := by
      rcases hR with rfl | ⟨m, em, _⟩
      · exact ⟨10, r, rfl, .inr rfl⟩
      · exact ⟨35, m ++ 10 :: r, by rw [em]; rfl, .inl rfl⟩
    rw [e2]
    obtain ⟨f, t3, e3, hf⟩ := bl_head h4 d t2
    rw [e3]
    refine stop_cons ?_
    rcases hf with rfl | rfl | rfl
    · rfl
    · rfl
    · rcases hd with rfl | rfl <;> rfl
  obtain ⟨q1, g1, g2⟩ := mitem_pair (mnm_ok i c hi) hw h2 h3 hst (rest_app hr1) l (by rw [ht]; exact mtwice_pair hi ht2 hl)
  obtain ⟨d, t4, e4, hd⟩ := (mnm_ok i c hi).head
  have hr2 := hr1
  rw [e4] at hr2
  have hne := letter_ne hd
  have := line_item h1 (r := t4 ++ (b2 ++ (61 :: (b3 ++ (bl w ++ (b4 ++ (bl R ++ 10 :: r))))))) hr2 ⟨hne.1, hne.2.1, hne.2.2.1, hne.2.2.2.1⟩ l _ q1 g1 rfl hR h4 g2
  rw [ht] at this
  exact this
theorem chunk_blank {t : ByteArray} {b : List Nat} (hb : isBl b) (e : bl t = b ++ [10]) (l : List It) : Chunk t l [bIt] := by
  refine chunk_of (by rw [← bl_len, e]; simp) (fun s a r hr => ?_)
  rw [e] at hr
  exact line_blank hb (by simpa using hr) l
theorem chunk_remark {t R : ByteArray} {b m : List Nat} (hb : isBl b) (eR : bl R = 35 :: m) (hm : ∀ c ∈ m, c ≠ 10) (e : bl t = b ++ (bl R ++ [10])) (l : List It) : Chunk t l [rIt R] := by
  refine chunk_of (by rw [← bl_len, e]; simp; omega) (fun s a r hr => ?_)
  rw [e] at hr
  exact line_remark eR hm hb (by simpa using hr) l
theorem isBl_dec {b : List Nat} (h : b.all (blankB false) = true) : isBl b := fun c hc => List.all_eq_true.1 h c hc
theorem MItOk.mono {h q h' q' : Nat} {o : It} (k : MItOk h q o) (h1 : h ≤ h') (h2 : q ≤ q') : MItOk h' q' o := by
  rcases k with k | ⟨a, j, b, c, d⟩ | ⟨a, j, c, tab, b, d, e, f⟩
  · exact .inl k
  · exact .inr (.inl ⟨a, j, by omega, c, d⟩)
  · exact .inr (.inr ⟨a, j, c, tab, by omega, d, e, f⟩)
/-- What was read so far. -/
structure InvI (k : Nat) (tab : List ByteArray) (l : List It) : Prop where
  ok : ∀ o ∈ l, MItOk k k o
  tab_ : rtable l = tab
  form : tab = [] ∨ ∃ m, m < 20 ∧ tab = [tbB m]
theorem inv_add {k : Nat} {tab : List ByteArray} {l : List It} {o : It} (h : ∀ o ∈ l, MItOk (k + 1) k o) (ht : rtable l = tab) (ho : o.k ≠ 91 ∧ o.k ≠ 61) : (∀ x ∈ l ++ [o], MItOk (k + 1) k x) ∧ rtable (l ++ [o]) = tab := by
  refine ⟨fun x hx => ?_, by rw [mrtable_snoc, if_neg ho.1, ht]⟩
  rw [List.mem_append, List.mem_singleton] at hx
  rcases hx with hx | rfl
  · exact h x hx
  · exact .inl ho
/-- The lines ahead of a pair, plain or odd. -/
theorem head_step {i : Nat} (hi : i < 20) (c : Int) {tab : List ByteArray} {l : List It} (h : InvI i tab l) :
    (Chunk (hdP i c) l (hiP i c) ∧ (∀ o ∈ l ++ hiP i c, MItOk (i + 1) i o) ∧ rtable (l ++ hiP i c) = tabN i c tab) ∧
    (Chunk (hdO i c) l (hiO i c) ∧ (∀ o ∈ l ++ hiO i c, MItOk (i + 1) i o) ∧ rtable (l ++ hiO i c) = tabN i c tab) ∧ (tabN i c tab = [] ∨ ∃ m, m < 20 ∧ tabN i c tab = [tbB m]) := by
  have hz : ∀ x : Nat, x + 0 = x := fun x => rfl
  have hm : ∀ o ∈ l, MItOk (i + 1) i o := fun o ho => (h.ok o ho).mono (by omega) (by omega)
  unfold hdP hdO hiP hiO tabN
  by_cases h0 : hk c = 0
  · simp only [if_pos h0]
    have hp : ∀ o ∈ l ++ [hIt i], MItOk (i + 1) i o := fun o ho => by
      rw [List.mem_append, List.mem_singleton] at ho
      rcases ho with ho | rfl
      · exact hm o ho
      · exact .inr (.inl ⟨rfl, i, by omega, hi, rfl⟩)
    have ht : rtable (l ++ [hIt i]) = [tbB i] := by rw [mrtable_snoc]; rfl
    refine ⟨⟨?_, hp, ht⟩, ⟨?_, hp, ht⟩, .inr ⟨i, hi, rfl⟩⟩
    · exact chunk_head hi (b1 := []) (b2 := []) (b3 := []) (b4 := []) (isBl_dec rfl) (isBl_dec rfl) (isBl_dec rfl) (isBl_dec rfl) (by unfold tbB; simp only [bl_app]; simp; rfl) h.ok
    · exact chunk_head hi (b1 := [9]) (b2 := [32]) (b3 := [9]) (b4 := [32]) (isBl_dec rfl) (isBl_dec rfl) (isBl_dec rfl) (isBl_dec rfl) (by unfold tbB; simp only [bl_app]; simp; rfl) h.ok
  · simp only [if_neg h0]
    refine ⟨?_, ?_, h.form⟩
    · by_cases h1 : hk c = 1
      · simp only [if_pos h1]
        exact ⟨chunk_blank (b := []) (isBl_dec rfl) rfl l, inv_add hm h.tab_ (by decide)⟩
      · simp only [if_neg h1]
        by_cases h2 : hk c = 2
        · simp only [if_pos h2]
          refine ⟨chunk_remark (b := []) (m := 32 :: 114 :: bl (dgtB i)) (isBl_dec rfl) (by rw [bl_app]; rfl) ?_ (by simp only [bl_app]; simp; rfl) l, inv_add hm h.tab_ ⟨(by decide : (35 : Nat) ≠ 91), (by decide : (35 : Nat) ≠ 61)⟩⟩
          intro d hd
          simp only [List.mem_cons] at hd
          rcases hd with rfl | rfl | hd
          · decide
          · decide
          · exact dig_ne10 hi d hd
        · simp only [if_neg h2]
          rw [List.append_nil]
          exact ⟨chunk_nil l, hm, h.tab_⟩
    · by_cases h1 : hk c = 1
      · simp only [if_pos h1]
        have i1 := inv_add hm h.tab_ (o := bIt) (by decide)
        have i2 := inv_add i1.1 i1.2 (o := bIt) (by decide)
        rw [List.append_assoc] at i2
        exact ⟨(chunk_blank (t := ⟨#[32, 9, 10]⟩) (b := [32, 9]) (isBl_dec rfl) rfl l).trans (chunk_blank (t := ⟨#[10]⟩) (b := []) (isBl_dec rfl) rfl _), i2⟩
      · simp only [if_neg h1]
        by_cases h2 : hk c = 2
        · simp only [if_pos h2]
          refine ⟨chunk_remark (b := [32, 32]) (m := 114 :: (bl (dgtB i) ++ [32, 9])) (isBl_dec rfl) (by simp only [bl_app]; simp; rfl) ?_ (by simp only [bl_app]; simp; rfl) l, inv_add hm h.tab_ ⟨(by decide : (35 : Nat) ≠ 91), (by decide : (35 : Nat) ≠ 61)⟩⟩
          intro d hd
          simp only [List.mem_cons, List.mem_append, List.mem_nil_iff, or_false] at hd
          rcases hd with rfl | hd | rfl | rfl
          · decide
          · exact dig_ne10 hi d hd
          · decide
          · decide
        · simp only [if_neg h2]
          rw [List.append_nil]
          exact ⟨chunk_nil l, hm, h.tab_⟩
theorem remP_ok {i : Nat} (hi : i < 20) (c : Int) : RemOk (rmP i c) := by
  unfold rmP
  split
  · refine .inr ⟨32 :: 115 :: bl (dgtB i), by rw [bl_app]; rfl, fun d hd => ?_⟩
    simp only [List.mem_cons] at hd
    rcases hd with rfl | rfl | hd
    · decide
    · decide
    · exact dig_ne10 hi d hd
  · exact .inl rfl
theorem remO_ok {i : Nat} (hi : i < 20) (c : Int) : RemOk (rmO i c) := by
  unfold rmO
  split
  · refine .inr ⟨115 :: (bl (dgtB i) ++ [32, 32, 32]), by simp only [bl_app]; simp; rfl, fun d hd => ?_⟩
    simp only [List.mem_cons, List.mem_append, List.mem_nil_iff, or_false] at hd
    rcases hd with rfl | hd | rfl | rfl | rfl
    · decide
    · exact dig_ne10 hi d hd
    · decide
    · decide
    · decide
  · exact .inl rfl
theorem chunk_prP {i : Nat} (hi : i < 20) (c : Int) {l : List It} {h0 : Nat} {tab : List ByteArray} (ht : rtable l = tab) (ht2 : tab = [] ∨ ∃ m, m < 20 ∧ tab = [tbB m]) (hl : ∀ o ∈ l, MItOk h0 i o) : Chunk (prP i c) l [pIt tab i c (rmP i c)] := by
  by_cases h : rk c = true
  · refine chunk_pair hi (reads_thP _) (remP_ok hi c) (b1 := []) (b2 := [32]) (b3 := [32]) (b4 := [32]) (isBl_dec rfl) (isBl_dec rfl) (isBl_dec rfl) (isBl_dec rfl) ?_ ht ht2 hl
    unfold prP rmP
    rw [if_pos h, if_pos h]
    simp only [bl_app]
    simp
    rfl
  · refine chunk_pair hi (reads_thP _) (remP_ok hi c) (b1 := []) (b2 := [32]) (b3 := [32]) (b4 := []) (isBl_dec rfl) (isBl_dec rfl) (isBl_dec rfl) (isBl_dec rfl) ?_ ht ht2 hl
    unfold prP rmP
    rw [if_neg h, if_neg h]
    simp only [bl_app]
    simp
    rfl
theorem chunk_prO {i : Nat} (hi : i < 20) (c : Int) {l : List It} {h0 : Nat} {tab : List ByteArray} (ht : rtable l = tab) (ht2 : tab = [] ∨ ∃ m, m < 20 ∧ tab = [tbB m]) (hl : ∀ o ∈ l, MItOk h0 i o) : Chunk (prO i c) l [pIt tab i c (rmO i c)] := by
  by_cases h : rk c = true
  · refine chunk_pair hi (reads_thO _) (remO_ok hi c) (b1 := [9, 32]) (b2 := []) (b3 := []) (b4 := []) (isBl_dec rfl) (isBl_dec rfl) (isBl_dec rfl) (isBl_dec rfl) ?_ ht ht2 hl
    unfold prO rmO
    rw [if_pos h, if_pos h]
    simp only [bl_app]
    simp
    rfl
  · refine chunk_pair hi (reads_thO _) (remO_ok hi c) (b1 := [9, 32]) (b2 := []) (b3 := []) (b4 := [32]) (isBl_dec rfl) (isBl_dec rfl) (isBl_dec rfl) (isBl_dec rfl) ?_ ht ht2 hl
    unfold prO rmO
    rw [if_neg h, if_neg h]
    simp only [bl_app]
    simp
    rfl
theorem inv_pair {k : Nat} (hk20 : k < 20) {c : Int} {R : ByteArray} {tab : List ByteArray} {l : List It} (h : ∀ o ∈ l, MItOk (k + 1) k o) (ht : rtable l = tab) (hf : tab = [] ∨ ∃ m, m < 20 ∧ tab = [tbB m]) : InvI (k + 1) tab (l ++ [pIt tab k c R]) := by
  refine ⟨fun o ho => ?_, by rw [mrtable_snoc, ht]; rfl, hf⟩
  rw [List.mem_append, List.mem_singleton] at ho
  rcases ho with ho | rfl
  · exact (h o ho).mono (Nat.le_refl _) (by omega)
  · exact .inr (.inr ⟨rfl, k, c, tab, by omega, hk20, rfl, hf⟩)
theorem read_made (raw : List Int) : ∀ k, k ≤ 20 → (Chunk (mkP raw k) [] (itP raw k) ∧ InvI k (tabAt raw k) (itP raw k)) ∧ (Chunk (mkO raw k) [] (itO raw k) ∧ InvI k (tabAt raw k) (itO raw k))
  | 0, _ => ⟨⟨chunk_nil _, ⟨fun o ho => absurd ho (List.not_mem_nil), rfl, .inl rfl⟩⟩, ⟨chunk_nil _, ⟨fun o ho => absurd ho (List.not_mem_nil), rfl, .inl rfl⟩⟩⟩
  | k + 1, h => by
    obtain ⟨⟨p1, p2⟩, ⟨o1, o2⟩⟩ := read_made raw k (by omega)
    obtain ⟨⟨a1, a2, a3⟩, _, a4⟩ := head_step (by omega : k < 20) (rw_ raw k) p2
    obtain ⟨_, ⟨b1, b2, b3⟩, _⟩ := head_step (by omega : k < 20) (rw_ raw k) o2
    refine ⟨⟨?_, ?_⟩, ⟨?_, ?_⟩⟩
    · exact p1.trans (a1.trans (chunk_prP (by omega) _ a3 a4 a2))
    · have := inv_pair (by omega : k < 20) (c := rw_ raw k) (R := rmP k (rw_ raw k)) a2 a3 a4
      rw [List.append_assoc] at this
      exact this
    · exact o1.trans (b1.trans (chunk_prO (by omega) _ b3 a4 b2))
    · have := inv_pair (by omega : k < 20) (c := rw_ raw k) (R := rmO k (rw_ raw k)) b2 b3 a4
      rw [List.append_assoc] at this
      exact this
theorem okB_nil : OkB ⟨#[]⟩ := okB_lit _ (by decide)
theorem okB_made (raw : List Int) : ∀ k, k ≤ 20 → OkB (mkP raw k) ∧ OkB (mkO raw k)
  | 0, _ => ⟨okB_nil, okB_nil⟩
  | k + 1, h => by
    obtain ⟨h1, h2⟩ := okB_made raw k (by omega)
    have hd := okB_dig k (by omega)
    have hn := okB_nm k (rw_ raw k) (by omega)
    refine ⟨h1.app (OkB.app ?_ ?_), h2.app (OkB.app ?_ ?_)⟩
    · unfold hdP
      split
      · exact ((okB_lit _ (by decide)).app hd).app (okB_lit _ (by decide))
      · split
        · exact okB_lit _ (by decide)
        · split
          · exact ((okB_lit _ (by decide)).app hd).app (okB_lit _ (by decide))
          · exact okB_nil
    · unfold prP
      refine ((((hn.app (okB_lit _ (by decide))).app (okB_thP _)).app ?_).app (okB_lit _ (by decide)))
      split
      · exact (okB_lit _ (by decide)).app hd
      · exact okB_nil
    · unfold hdO
      split
      · exact ((okB_lit _ (by decide)).app hd).app (okB_lit _ (by decide))
      · split
        · exact okB_lit _ (by decide)
        · split
          · exact ((okB_lit _ (by decide)).app hd).app (okB_lit _ (by decide))
          · exact okB_nil
    · unfold prO
      refine (((((okB_lit _ (by decide)).app hn).app (okB_lit _ (by decide))).app (okB_thO _)).app ?_).app (okB_lit _ (by decide))
      split
      · exact ((okB_lit _ (by decide)).app hd).app (okB_lit _ (by decide))
      · exact okB_nil
theorem rbytes_ok {s : ByteArray} (h : OkB s) : ∀ i, i ≤ s.size → rbytes s i (s0 0) = s0 0
  | 0, _ => rfl
  | i + 1, hi => by
    unfold rbytes
    rw [if_pos (bl_mem (P := fun c => okByte c = true) h i (by omega)), rbytes_ok h i (by omega)]
/-- Each line has its end. -/
theorem lines_le {t : ByteArray} {its : List It} (h : Chunk t [] its) (hn : its.length ≤ t.size) (hok : OkB t) (h4 : t.size ≤ 4000) : rread t = (s0 t.size, its) := by
  unfold rread
  rw [if_neg (by omega)]
  show rreadLoop t (t.size + 1) (rbytes t t.size (s0 0)) [] = _
  rw [rbytes_ok hok _ (Nat.le_refl _)]
  obtain ⟨n, hn'⟩ : ∃ n, t.size + 1 = n + its.length := ⟨t.size + 1 - its.length, by omega⟩
  rw [hn', h t 0 [] n (by rw [List.append_nil]; exact rest_zero t), Nat.zero_add, List.nil_append]
  cases n with
  | zero => rfl
  | succ n =>
    unfold rreadLoop
    rw [if_pos (.inr (Nat.le_refl _))]
theorem its_le (raw : List Int) : ∀ k, (itP raw k).length ≤ (mkP raw k).size ∧ (itO raw k).length ≤ (mkO raw k).size
  | 0 => ⟨Nat.le_refl _, Nat.le_refl _⟩
  | k + 1 => by
    obtain ⟨h1, h2⟩ := its_le raw k
    have a1 : (hiP k (rw_ raw k)).length ≤ (hdP k (rw_ raw k)).size := by
      unfold hiP hdP
      split
      · simp only [ByteArray.size_append]; show 1 ≤ 2 + _ + 2; omega
      · split
        · exact Nat.le_refl _
        · split
          · simp only [ByteArray.size_append]; show 1 ≤ 3 + _ + 1; omega
          · exact Nat.le_refl _
    have a2 : (hiO k (rw_ raw k)).length ≤ (hdO k (rw_ raw k)).size := by
      unfold hiO hdO
      split
      · simp only [ByteArray.size_append]; show 1 ≤ 4 + _ + 4; omega
      · split
        · show 2 ≤ 4; omega
        · split
          · simp only [ByteArray.size_append]; show 1 ≤ 4 + _ + 3; omega
          · exact Nat.le_refl _
    have b1 : 1 ≤ (prP k (rw_ raw k)).size := by unfold prP; rw [ByteArray.size_append]; show 1 ≤ _ + 1; omega
    have b2 : 1 ≤ (prO k (rw_ raw k)).size := by unfold prO; rw [ByteArray.size_append]; show 1 ≤ _ + 2; omega
    unfold itP itO mkP mkO
    simp only [List.length_append, ByteArray.size_append, List.length_cons, List.length_nil]
    omega
theorem read_odd (raw : List Int) (k : Nat) (hk : k ≤ 20) (h4 : (mkO raw k).size ≤ 4000) : rread (mkO raw k) = (s0 (mkO raw k).size, itO raw k) := lines_le (read_made raw k hk).2.1 (its_le raw k).2 (okB_made raw k hk).2 h4
end Go.Proofs.YtdebjhdafnpfkabGreatDoor

namespace Go.Proofs.YtdebjhdafnpfkabGreatDoor
open Go.ChangeShapes Go.WideShapes Go.ChangeAt Go.RowKit
set_option linter.unusedVariables false
set_option linter.unusedSimpArgs false
theorem pk_neg (c : Int) (n : Nat) (h : c < 0) : (pk c n : Int) = -((c + 1).tmod n) := by
  unfold pk
  rw [if_pos h, ← Int.neg_tmod, Int.tmod_eq_emod_of_nonneg (by omega), Int.natCast_emod, Int.toNat_of_nonneg (by omega)]
theorem pk_pos (c : Int) (n : Nat) (h : ¬ c < 0) : (pk c n : Int) = c % n := by
  unfold pk
  rw [if_neg h, Int.natCast_emod, Int.toNat_of_nonneg (by omega)]
theorem pick_any (c : Int) (n : Nat) (w : World) (h1 : -9223372036854775808 ≤ c) (h2 : c ≤ 9223372036854775807) (h3 : 0 < n) (h4 : n ≤ 1099511627776) :
    Calls Tryz.prog 6 #[.int .i64 c, .int .i64 n] w fun e w' => e = .returned (.int .i64 (pk c n)) ∧ w' = w := by
  have tn : ((n : Int) == 0) = false := by simp; omega
  have hlt := pk_lt c n h3
  by_cases hc : c < 0
  · have t0 : decide (c < 0) = true := by simpa using hc
    have Fin : Hid ((pk c n : Int) = -((c + 1).tmod n)) := pk_neg c n hc
    go_enter Tryz.func6, Tryz.ntmps6
    go_wp2_with fail
    go_ret
    exact ⟨congrArg (fun z => Ending.returned (.int .i64 z)) Fin.out.symm, rfl⟩
  · have t0 : decide (c < 0) = false := by simpa using hc
    have Fin : Hid ((pk c n : Int) = c % n) := pk_pos c n hc
    go_enter Tryz.func6, Tryz.ntmps6
    go_wp2_with fail
    go_ret
    exact ⟨congrArg (fun z => Ending.returned (.int .i64 z)) Fin.out.symm, rfl⟩
theorem conv_dig (w : World) (g c : Nat) (hc : c < 256) (h : w.cell? ⟨g, 0, none⟩ = some (.int .u8 c)) :
    (convert 43 9 (.slice (some ⟨g, 0, none⟩) 1 1)).run Tryz.prog w = .ok (.string ⟨#[UInt8.ofNat c]⟩) w := by
  refine run_convert_bytes_back w 43 9 5 ⟨g, 0, none⟩ 1 [UInt8.ofNat c] Tryz.underlying43 Tryz.underlying5 Tryz.underlying9 ?_
  intro j hj
  simp only [List.length_singleton] at hj
  obtain rfl : j = 0 := by omega
  simp only [List.getElem_cons_zero]
  rw [show ((UInt8.ofNat c).toNat : Int) = c by simp; omega]
  exact h
theorem digits_small (n : Nat) (hn : n < 10) (w : World) : Calls Tryz.prog 7 #[.int .i64 n] w fun e w' => e = .returned (.string (dgtB n)) ∧ Below w.heap.size w w' := by
  have Fin : Hid (dgtB n = ⟨#[48 + UInt8.ofNat n]⟩) := by unfold Hid; rw [digB_small n hn, UInt8.ofNat_add]; rfl
  have t0 : decide ((n : Int) < 10) = true := by simp; omega
  have hcv := fun W => conv_dig W w.heap.size (48 + n) (by omega)
  simp only [Int.natCast_add, Int.cast_ofNat_Int] at hcv
  go_enter Tryz.func7, Tryz.ntmps7
  go_wp2_with fail
  go_ret
  exact ⟨congrArg (fun z => Ending.returned (.string z)) Fin.out.symm, (Below.refl _ _).alloc (Nat.le_refl _) _⟩
theorem digits_any : ∀ (n : Nat), n < 10000000000000000000 → n ≤ 9223372036854775807 → ∀ w : World, Calls Tryz.prog 7 #[.int .i64 n] w fun e w' => e = .returned (.string (dgtB n)) ∧ Below w.heap.size w w' := by
  apply dg_ind
  · intro n hn _ w
    exact digits_small n hn w
  · intro n hn hn2 ih hn3 w
    have Fin : Hid (dgtB n = dgtB (n / 10) ++ dgtB (n % 10)) := digB_big n hn hn2
    have t0 : decide ((n : Int) < 10) = false := by simp; omega
    have h3 : n % 10 < 10 := Nat.mod_lt _ (by decide)
    have IH : Hid (∀ w : World, Calls Tryz.prog 7 #[.int .i64 ((n : Int) / 10)] w fun e w' => e = .returned (.string (dgtB (n / 10))) ∧ Below w.heap.size w w') := fun w => by
      have := ih (by omega) w
      rw [Int.natCast_ediv] at this
      exact this
    have IH2 : Hid (∀ w : World, Calls Tryz.prog 7 #[.int .i64 ((n : Int) % 10)] w fun e w' => e = .returned (.string (dgtB (n % 10))) ∧ Below w.heap.size w w') := fun w => by
      have := digits_small (n % 10) h3 w
      rw [Int.natCast_emod] at this
      exact this
    have z1 := dig_size (n / 10)
    have z2 := dig_size (n % 10)
    clear ih
    go_enter Tryz.func7, Tryz.ntmps7
    go_wp2_with fail
    refine (IH.out _).mono ?_
    rintro e w1 ⟨rfl, hB1⟩
    have HB1 : Hid _ := hB1
    clear hB1
    go_wp2_with fail
    refine (IH2.out _).mono ?_
    rintro e w2 ⟨rfl, hB2⟩
    have HB2 : Hid (Below w.heap.size w w2) := HB1.out.trans (hB2.mono HB1.out.size)
    clear hB2
    go_wp2_with fail
    go_ret
    exact ⟨congrArg (fun z => Ending.returned (.string z)) Fin.out.symm, HB2.out⟩
end Go.Proofs.YtdebjhdafnpfkabGreatDoor
