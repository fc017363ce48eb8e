/-
  The document's way through a row of received bits, as lists: no Go.
-/
import Derived.Test.YtmapkjjglhpamaaWLaw
namespace Go.Proofs.Ytmapkjjglhpamaa
open Go.RowKit

/-- What stands in the first k bits, without the inserted ones. -/
def pl (l : List Int) : Nat → List Int
  | 0 => []
  | k + 1 => plainOf (l.take k) (pl l k) (l.getD k 0)
/-- No inserted bit of the first k is wrong. -/
def okTo (l : List Int) (k : Nat) : Prop := ∀ j, j < k → ¬ (fiveB (l.take j) = true ∧ l.getD j 0 = (runOf (l.take j)).1)
def need (l : List Int) (many : Nat) (en : Bool) (k : Nat) : Prop := (pl l k).length < many ∨ (en = true ∧ fiveB (l.take k) = true)
/-- Where the document's 'bare' ends, and with what. -/
structure Bare (l : List Int) (many : Nat) (en : Bool) (k : Nat) (v : Int) : Prop where
  le : k ≤ l.length
  ok : okTo l k
  bef : ∀ j, j < k → need l many en j
  fin : (v = 0 ∧ ¬ need l many en k) ∨ (v = 1 ∧ k = l.length ∧ need l many en k) ∨ (v = 2 ∧ k < l.length ∧ need l many en k ∧ fiveB (l.take k) = true ∧ l.getD k 0 = (runOf (l.take k)).1)

section
variable {l : List Int} {k j many n : Nat} {en : Bool} {v : Int} {f : Fr}
theorem take_next (hk : k < l.length) : l.take (k + 1) = l.take k ++ [l.getD k 0] := take_snoc (getD_some hk)
theorem okTo.down (h : okTo l k) (hj : j ≤ k) : okTo l j := fun i hi => h i (by omega)
theorem okTo.run : ∀ {k : Nat}, okTo l k → k ≤ l.length → (runOf (l.take k)).2 ≤ 5
  | 0, _, _ => by simp [runOf]
  | k + 1, h, hk => by
    rw [take_next (by omega), runOf_snoc]
    have ih := okTo.run (h.down (Nat.le_succ k)) (by omega)
    by_cases hf : fiveB (l.take k) = true
    · have := h k (by omega)
      rw [tick_other (fun e => this ⟨hf, e⟩)]
      simp
    · have h4 : (runOf (l.take k)).2 ≤ 4 := by unfold fiveB at hf; simp at hf; omega
      have := tick_le (runOf (l.take k)) (l.getD k 0)
      omega
theorem okTo.five (h : okTo l k) (hk : k ≤ l.length) : fiveB (l.take k) = true ↔ (runOf (l.take k)).2 = 5 := by
  have := h.run hk
  unfold fiveB
  simp
  omega
theorem pl_right (hr : rightB l = true) : ∀ k, rightB (pl l k) = true
  | 0 => rfl
  | k + 1 => plain_right (pl_right hr k) (getD_01 hr k)
theorem pl_five (h : fiveB (l.take k) = true) : pl l (k + 1) = pl l k := by
  show plainOf _ _ _ = _
  unfold plainOf
  rw [if_pos h]
theorem pl_more (h : ¬ fiveB (l.take k) = true) : pl l (k + 1) = pl l k ++ [l.getD k 0] := by
  show plainOf _ _ _ = _
  unfold plainOf
  rw [if_neg h]
theorem pl_len (l : List Int) : ∀ k, (pl l k).length ≤ k
  | 0 => Nat.le_refl _
  | k + 1 => by
    have := pl_len l k
    by_cases h : fiveB (l.take k) = true
    · rw [pl_five h]; omega
    · rw [pl_more h]; simp; omega
theorem pl_up (l : List Int) (j : Nat) : ∀ i, ∃ t, pl l (j + i) = pl l j ++ t
  | 0 => ⟨[], by simp⟩
  | i + 1 => by
    obtain ⟨t, ht⟩ := pl_up l j i
    by_cases h : fiveB (l.take (j + i)) = true
    · exact ⟨t, by rw [← Nat.add_assoc, pl_five h, ht]⟩
    · exact ⟨t ++ [l.getD (j + i) 0], by rw [← Nat.add_assoc, pl_more h, ht, List.append_assoc]⟩
theorem pl_le (l : List Int) (h : j ≤ k) : ∃ t, pl l k = pl l j ++ t := by
  obtain ⟨t, ht⟩ := pl_up l j (k - j)
  exact ⟨t, by rw [← ht]; congr 1; omega⟩
theorem stuffedF_ok (hk : k < l.length) (h : okTo l (k + 1)) : stuffedF (l.take k) (pl l k) (l.getD k 0) = judged (l.take (k + 1)) (pl l (k + 1)) := by
  unfold stuffedF
  rw [if_neg (h k (by omega)), ← take_next hk]
  rfl
theorem go_S : ∀ (k : Nat), k ≤ l.length → okTo l k → (∀ j, j ≤ k → judged (l.take j) (pl l j) = 0 ∧ wholeB (l.take j) (pl l j) = false) → wireRd l = rdS l (l.take k) (pl l k) (l.drop k)
  | 0, _, _, _ => by simp [wireRd, pl]
  | k + 1, hk, hok, h => by
    have ih := go_S k (by omega) (hok.down (Nat.le_succ k)) (fun j hj => h j (by omega))
    obtain ⟨h1, h2⟩ := h (k + 1) (Nat.le_refl _)
    exact S_go ih (getD_some (by omega)) (by rw [stuffedF_ok (by omega) hok]; exact h1) h2
theorem short_step {H P : List Int} (h : readL P = .error 40) : judged H P = 0 ∧ wholeB H P = false := by
  have hw : wholeB H P = false := by unfold wholeB; rw [h]; rfl
  refine ⟨?_, hw⟩
  unfold judged
  rw [h, hw]
  rfl
theorem head_step {H P : List Int} (h : readL P = .ok (f, n)) (hn : P.length ≠ n + 15 ∨ fiveB H = true) : judged H P = 0 ∧ wholeB H P = false := by
  have hw : wholeB H P = false := by
    unfold wholeB
    rw [h]
    rcases hn with e | e
    · simp [hdOf, e]
    · simp [hdOf, e]
  refine ⟨?_, hw⟩
  unfold judged
  rw [h, hw]
  rfl
/-- All that is shorter is short. -/
def Sh (l : List Int) (many : Nat) : Prop := ∀ j, j ≤ l.length → okTo l j → (pl l j).length < many → readL (pl l j) = .error 40
theorem Sh.one (l : List Int) : Sh l 1 := fun j _ _ h => by
  have : pl l j = [] := List.eq_nil_of_length_eq_zero (by omega)
  rw [this]; rfl
theorem need_len (h : need l many false j) : (pl l j).length < many := by
  rcases h with h | ⟨h, _⟩
  · exact h
  · cases h
theorem fault_of (hb : Bare l many en k v) (hv : v ≠ 0) (hg : wireRd l = rdS l (l.take k) (pl l k) (l.drop k)) : wireRd l = (Fr.none_, v, (k : Int)) := by
  rcases hb.fin with ⟨rfl, _⟩ | ⟨rfl, rfl, _⟩ | ⟨rfl, hk, _, h5, he⟩
  · exact absurd rfl hv
  · exact S_short hg rfl
  · exact S_fault hg (getD_some hk) (by unfold stuffedF; rw [if_pos ⟨h5, he⟩]) (by decide)
theorem first_fault (hs : Sh l many) (hb : Bare l many false k v) (hv : v ≠ 0) : wireRd l = (Fr.none_, v, (k : Int)) := by
  refine fault_of hb hv (go_S k hb.le hb.ok fun j hj => short_step (hs j (by have := hb.le; omega) (hb.ok.down hj) ?_))
  by_cases e : j < k
  · exact need_len (hb.bef j e)
  · obtain rfl : j = k := by omega
    rcases hb.fin with ⟨rfl, _⟩ | ⟨_, _, h⟩ | ⟨_, _, h, _⟩
    · exact absurd rfl hv
    · exact need_len h
    · exact need_len h
theorem bare_len (hb : Bare l many false k 0) (hm : 1 ≤ many) : 1 ≤ k ∧ (pl l k).length = many ∧ (pl l (k - 1)).length + 1 = many ∧ ¬ fiveB (l.take (k - 1)) = true := by
  have hn : ¬ need l many false k := by
    rcases hb.fin with ⟨_, h⟩ | ⟨h, _⟩ | ⟨h, _⟩
    · exact h
    · cases h
    · cases h
  have h1 : many ≤ (pl l k).length := Nat.le_of_not_lt fun e => hn (.inl e)
  have hk : 1 ≤ k := by
    rcases Nat.eq_zero_or_pos k with rfl | h
    · simp [pl] at h1; omega
    · exact h
  obtain ⟨p, rfl⟩ : ∃ p, k = p + 1 := ⟨k - 1, by omega⟩
  have h2 := need_len (hb.bef p (by omega))
  by_cases h : fiveB (l.take p) = true
  · rw [pl_five h] at h1; omega
  · have e : (pl l (p + 1)).length = (pl l p).length + 1 := by rw [pl_more h]; simp
    exact ⟨by omega, by omega, by rw [Nat.add_sub_cancel]; omega, by rw [Nat.add_sub_cancel]; exact h⟩
theorem go_first (hs : Sh l many) (hb : Bare l many false k 0) (hm : 1 ≤ many) : wireRd l = rdS l (l.take (k - 1)) (pl l (k - 1)) (l.drop (k - 1)) := by
  obtain ⟨hk, h1, h2, _⟩ := bare_len hb hm
  refine go_S (k - 1) (by have := hb.le; omega) (hb.ok.down (by omega)) fun j hj => short_step (hs j (by have := hb.le; omega) (hb.ok.down (by omega)) ?_)
  exact need_len (hb.bef j (by omega))
theorem form_fault (hs : Sh l many) (hb : Bare l many false k 0) (hm : 1 ≤ many) {e : Int} (he : readL (pl l k) = .error e) (h40 : e ≠ 40) : wireRd l = (Fr.none_, 3, ((k - 1 : Nat) : Int)) := by
  have hg := go_first hs hb hm
  obtain ⟨hk, h1, h2, _⟩ := bare_len hb hm
  have hle := hb.le
  refine S_fault hg (getD_some (by omega)) ?_ (by decide)
  obtain ⟨p, rfl⟩ : ∃ p, k = p + 1 := ⟨k - 1, by omega⟩
  rw [Nat.add_sub_cancel, stuffedF_ok (by omega) hb.ok]
  unfold judged
  rw [he]
  simp [formOk, h40]
theorem Sh.next (hs : Sh l many) (hb : Bare l many false k 0) (hm : 1 ≤ many) (he : readL (pl l k) = .error 40) : Sh l (many + 1) := by
  intro j hj hok hlt
  by_cases h : (pl l j).length < many
  · exact hs j hj hok h
  · obtain ⟨hk, h1, h2, _⟩ := bare_len hb hm
    have hjk : k ≤ j := Nat.le_of_not_lt fun e => h (need_len (hb.bef j e))
    obtain ⟨t, ht⟩ := pl_le l hjk
    have : t = [] := List.eq_nil_of_length_eq_zero (by rw [ht] at hlt; simp at hlt; omega)
    rw [ht, this, List.append_nil]
    exact he
/-- The head has been read. -/
structure Hd (l : List Int) (f : Fr) (n k : Nat) : Prop where
  le : k ≤ l.length
  ok : okTo l k
  len : (pl l k).length = n
  rd : readL (pl l k) = .ok (f, n)
  sh : Sh l n
  min : ∀ j, j < k → (pl l j).length < n
theorem hd_of (hr : rightB l = true) (hs : Sh l many) (hb : Bare l many false k 0) (hm : 1 ≤ many) (he : readL (pl l k) = .ok (f, n)) : n = many ∧ Hd l f n k := by
  obtain ⟨hk, h1, h2, h3⟩ := bare_len hb hm
  have hpos := read_pos (pl_right hr k) he
  have hnm : n = many := by
    by_cases e : n = many
    · exact e
    · exfalso
      have hsh := hs (k - 1) (by have := hb.le; omega) (hb.ok.down (by omega)) (by omega)
      obtain ⟨ID, L, e1, e2, e3, e4, e5, e6, e7, e8⟩ := read_back (pl_right hr k) he
      obtain ⟨t, ht⟩ := pl_le l (show k - 1 ≤ k by omega)
      have hle : n ≤ (pl l (k - 1)).length := by omega
      have e9 : pl l (k - 1) = headV f.ext ID f.rem L f.data ++ (pl l (k - 1)).drop n := by
        rw [e7, ht, List.take_append_of_le_length hle, List.take_append_drop]
      rw [e9, read_head _ _ _ _ _ _ e2 e3 e5 e4] at hsh
      cases hsh
  subst hnm
  exact ⟨rfl, hb.le, hb.ok, h1, he, hs, fun j hj => need_len (hb.bef j hj)⟩
theorem Hd.more (h : Hd l f n k) (hr : rightB l = true) (hj : k ≤ j) : readL (pl l j) = .ok (f, n) := by
  obtain ⟨t, ht⟩ := pl_le l hj
  rw [ht]
  exact read_more (pl_right hr k) h.rd t
theorem Hd.step (h : Hd l f n k) (hr : rightB l = true) (hj : j ≤ l.length) (hok : okTo l j) (hn : need l (n + 15) true j) : judged (l.take j) (pl l j) = 0 ∧ wholeB (l.take j) (pl l j) = false := by
  by_cases e : (pl l j).length < n
  · exact short_step (h.sh j hj hok e)
  · have hkj : k ≤ j := Nat.le_of_not_lt fun e2 => e (h.min j e2)
    refine head_step (h.more hr hkj) ?_
    rcases hn with h1 | ⟨_, h1⟩
    · exact .inl (by omega)
    · exact .inr h1
theorem tail_fault (h : Hd l f n j) (hr : rightB l = true) (hb : Bare l (n + 15) true k v) (hv : v ≠ 0) : wireRd l = (Fr.none_, v, (k : Int)) := by
  refine fault_of hb hv (go_S k hb.le hb.ok fun i hi => h.step hr (by have := hb.le; omega) (hb.ok.down hi) ?_)
  by_cases e : i < k
  · exact hb.bef i e
  · obtain rfl : i = k := by omega
    rcases hb.fin with ⟨rfl, _⟩ | ⟨_, _, h⟩ | ⟨_, _, h, _⟩
    · exact absurd rfl hv
    · exact h
    · exact h
/-- The stuffed part is whole. -/
structure Wh (l : List Int) (f : Fr) (n k : Nat) : Prop where
  pos : 1 ≤ k
  le : k ≤ l.length
  ok : okTo l k
  len : (pl l k).length = n + 15
  rd : readL (pl l k) = .ok (f, n)
  no5 : fiveB (l.take k) = false
  go : wireRd l = rdS l (l.take (k - 1)) (pl l (k - 1)) (l.drop (k - 1))
theorem wh_of (h : Hd l f n j) (hr : rightB l = true) (hb : Bare l (n + 15) true k 0) : Wh l f n k := by
  have hn : ¬ need l (n + 15) true k := by
    rcases hb.fin with ⟨_, h⟩ | ⟨h, _⟩ | ⟨h, _⟩
    · exact h
    · cases h
    · cases h
  have h1 : n + 15 ≤ (pl l k).length := Nat.le_of_not_lt fun e => hn (.inl e)
  have h5 : ¬ fiveB (l.take k) = true := fun e => hn (.inr ⟨rfl, e⟩)
  have hk : 1 ≤ k := by have := pl_len l k; omega
  have hkj : j ≤ k := Nat.le_of_not_lt fun e => by have := h.min k e; omega
  have hup : ∀ i, i ≤ k → (pl l i).length ≤ n + 15 := by
    intro i
    induction i with
    | zero => intro _; simp [pl]
    | succ i ih =>
      intro hi
      have ih := ih (by omega)
      by_cases e : fiveB (l.take i) = true
      · rw [pl_five e]; exact ih
      · rw [pl_more e]
        rcases hb.bef i (by omega) with h3 | ⟨_, h3⟩
        · simp; omega
        · exact absurd h3 e
  refine ⟨hk, hb.le, hb.ok, by have := hup k (Nat.le_refl _); omega, h.more hr hkj, by simpa using h5, ?_⟩
  exact go_S (k - 1) (by have := hb.le; omega) (hb.ok.down (by omega)) fun i hi => h.step hr (by have := hb.le; omega) (hb.ok.down (by omega)) (hb.bef i (by omega))
theorem Wh.whole (h : Wh l f n k) (hr : rightB l = true) : wholeB (l.take k) (pl l k) = true := by
  have := read_pos (pl_right hr k) h.rd
  unfold wholeB
  rw [h.rd]
  show (decide (0 < n) && decide ((pl l k).length = n + 15) && !fiveB (l.take k)) = true
  rw [h.no5, h.len, decide_eq_true (show 0 < n by omega)]
  simp
theorem Wh.sum (h : Wh l f n k) : sumB (pl l k) = decide (numOf ((pl l k).drop n) = (crc15 ((pl l k).take n)).toNat) := by unfold sumB; rw [h.rd]; rfl
theorem Wh.bad (h : Wh l f n k) (hr : rightB l = true) (hs : sumB (pl l k) = false) : wireRd l = (Fr.none_, 4, ((k - 1 : Nat) : Int)) := by
  have hw := h.whole hr
  obtain ⟨p, rfl⟩ : ∃ p, k = p + 1 := ⟨k - 1, by have := h.pos; omega⟩
  have hle := h.le
  refine S_fault h.go (getD_some (by omega)) ?_ (by decide)
  rw [Nat.add_sub_cancel, stuffedF_ok (by omega) h.ok]
  unfold judged
  rw [h.rd, hw, hs]
  rfl
theorem Wh.good (h : Wh l f n k) (hr : rightB l = true) (hs : sumB (pl l k) = true) : wireRd l = rdT l k f 0 (l.drop k) := by
  have hw := h.whole hr
  obtain ⟨p, rfl⟩ : ∃ p, k = p + 1 := ⟨k - 1, by have := h.pos; omega⟩
  have hle := h.le
  have hg := h.go
  rw [Nat.add_sub_cancel] at hg
  have := S_whole hg (getD_some (by omega)) (by
    rw [stuffedF_ok (by omega) h.ok]
    unfold judged
    rw [h.rd, hw, hs]
    rfl) hw
  rw [this]
  show rdT l (p + 1) (hdOf (readL (pl l (p + 1)))).2 0 _ = _
  rw [h.rd]
  rfl
end

end Go.Proofs.Ytmapkjjglhpamaa
