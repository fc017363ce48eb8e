/-
  What is read was sent so: lists, no Go.
-/
import Derived.Test.YtmapkjjglhpamaaWLaw
namespace Go.Proofs.Ytmapkjjglhpamaa
open Go.RowKit

/-- What was heard, and the same without the inserted bits. -/
def Inv (H P : List Int) : Prop := (runOf H).2 ≤ 5 ∧ (fiveB H = true → stuffL P = H ++ [1 - (runOf H).1]) ∧ (fiveB H = false → stuffL P = H)
theorem Inv.start : Inv [] [] := ⟨by simp [runOf], (fun h => by cases h), fun _ => rfl⟩
theorem run_01 {H : List Int} (hr : rightB H = true) (h : 0 < H.length) : (runOf H).1 = 0 ∨ (runOf H).1 = 1 := rightB_at hr (runOf_last h)
theorem Inv.step {H P : List Int} {b : Int} (h : Inv H P) (hr : rightB H = true) (hb : b = 0 ∨ b = 1) (h2 : ¬ (fiveB H = true ∧ b = (runOf H).1)) : Inv (H ++ [b]) (plainOf H P b) := by
  obtain ⟨h5, hy, hn⟩ := h
  cases hf : fiveB H with
  | true =>
    have hs := hy hf
    have hlen : 0 < H.length := by
      have := runOf_le H
      unfold fiveB at hf
      simp at hf
      omega
    have h01 := run_01 hr hlen
    have hne : b ≠ (runOf H).1 := fun e => h2 ⟨hf, e⟩
    have hb' : b = 1 - (runOf H).1 := by omega
    have hrun : runOf (H ++ [b]) = (b, 1) := by rw [runOf_snoc, tick_other hne]
    have hP : plainOf H P b = P := by unfold plainOf; rw [hf]; rfl
    have hf' : fiveB (H ++ [b]) = false := by unfold fiveB; rw [hrun]; rfl
    refine ⟨by rw [hrun]; simp, fun e => by (rw [hf'] at e; cases e), fun _ => ?_⟩
    rw [hP, hs, hb']
  | false =>
    have hs := hn hf
    have h4 : (runOf H).2 ≤ 4 := by unfold fiveB at hf; simp at hf; omega
    have hP : plainOf H P b = P ++ [b] := by unfold plainOf; rw [hf]; rfl
    have hS : runOf H = stuffS (0, 0) P := by rw [← hs, runOf_stuff]
    have ht := tick_le (runOf H) b
    rw [hP]
    by_cases hq : (tick (stuffS (0, 0) P) b).2 = 5
    · have hf' : fiveB (H ++ [b]) = true := by unfold fiveB; rw [runOf_snoc, hS, hq]; rfl
      refine ⟨by rw [runOf_snoc, hS, hq]; omega, fun _ => ?_, fun e => by (rw [hf'] at e; cases e)⟩
      rw [stuffL_snoc5 hq, hs, runOf_snoc, tick_fst]
    · have hq4 : (tick (stuffS (0, 0) P) b).2 ≤ 4 := by rw [hS] at ht h4; omega
      have hf' : fiveB (H ++ [b]) = false := by unfold fiveB; rw [runOf_snoc, hS]; simp; omega
      refine ⟨by rw [runOf_snoc, hS]; omega, fun e => by (rw [hf'] at e; cases e), fun _ => ?_⟩
      rw [stuffL_snoc hq, hs]

/-- A right frame and its head. -/
structure Told (T : List Int) (y : Fr) (ID L : Nat) : Prop where
  eq : y = ⟨y.ext, ID, y.rem, L, y.data⟩
  id : idOk y.ext ID
  len : L ≤ 8
  many : y.data.length = (if y.rem then 0 else L)
  byte : byteB y.data
  head : headV y.ext ID y.rem L y.data = T
def Says (l : List Int) (y : Fr) (a p : Int) : Prop :=
  (a = 0 ∧ p = -1 ∧ ∃ T ID L, Told T y ID L ∧ ∃ more, l = stuffL (bareV T) ++ (tenV 0 ++ more)) ∨ (a ≠ 0 ∧ 0 ≤ p ∧ p ≤ l.length ∧ (a = 5 ∨ y = Fr.none_))

theorem whole_told {H P : List Int} (hI : Inv H P) (hr : rightB P = true) (hw : wholeB H P = true) (hj : judged H P = 0) : ∃ T ID L, Told T (hdOf (readL P)).2 ID L ∧ P = bareV T ∧ H = stuffL (bareV T) := by
  cases hp : readL P with
  | error e => unfold wholeB at hw; rw [hp] at hw; simp [hdOf] at hw
  | ok q =>
    obtain ⟨f, n⟩ := q
    have hw' := hw
    unfold wholeB at hw'
    rw [hp] at hw'
    simp only [hdOf, Bool.and_eq_true, Bool.not_eq_true'] at hw'
    obtain ⟨⟨_, hlen'⟩, hf⟩ := hw'
    have hlen : P.length = n + 15 := of_decide_eq_true hlen'
    have hs : sumB P = true := by
      unfold judged at hj
      rw [hp, hw] at hj
      cases h : sumB P with
      | true => rfl
      | false => rw [h] at hj; simp [formOk] at hj
    unfold sumB at hs
    rw [hp] at hs
    replace hs : numOf (P.drop n) = (crc15 (P.take n)).toNat := of_decide_eq_true hs
    obtain ⟨ID, L, e1, e2, e3, e4, e5, e6, e7, e8⟩ := read_back hr hp
    have hd : P.drop n = sumV (P.take n) := by
      unfold sumV
      rw [← hs]
      exact (bitRow_back 15 (P.drop n) (by simp; omega) (rightB_drop hr n)).symm
    have hb : P = bareV (P.take n) := by
      unfold bareV
      rw [← hd, List.take_append_drop]
    exact ⟨P.take n, ID, L, ⟨e1, e2, e3, e4, e5, e7⟩, hb, by rw [← hb, hI.2.2 hf]⟩

theorem ten_eq {u : List Int} (hl : u.length = 10) (h1 : ∀ j, j < 10 → j ≠ 1 → u[j]? = some 1) (h0 : u[1]? = some 0) : u = tenV 0 := by
  apply take_all
  · rw [hl]; rfl
  · intro j hj
    by_cases e : j = 1
    · subst e; rw [h0]; rfl
    · rw [h1 j (by omega) e]
      have : j = 0 ∨ j = 2 ∨ j = 3 ∨ j = 4 ∨ j = 5 ∨ j = 6 ∨ j = 7 ∨ j = 8 ∨ j = 9 := by omega
      rcases this with rfl | rfl | rfl | rfl | rfl | rfl | rfl | rfl | rfl <;> rfl
theorem rdT_says (l S : List Int) (f : Fr) : ∀ (r pre : List Int), l = S ++ (pre ++ r) → pre.length < 10 → (∀ j, j < pre.length → j ≠ 1 → pre[j]? = some 1) → ∀ y a p, rdT l S.length f pre.length r = (y, a, p) →
    (a = 0 ∧ p = -1 ∧ y = f ∧ ∃ more, l = S ++ (tenV 0 ++ more)) ∨ (a ≠ 0 ∧ 0 ≤ p ∧ p ≤ l.length ∧ (a = 5 ∨ y = Fr.none_))
  | [], pre, hl, _, _, y, a, p, h => by
    simp only [rdT, Prod.mk.injEq] at h
    obtain ⟨rfl, rfl, rfl⟩ := h
    right
    refine ⟨by decide, by omega, ?_, .inr rfl⟩
    rw [hl]; simp
  | b :: r, pre, hl, ht, hp, y, a, p, h => by
    simp only [rdT] at h
    have hll : l.length = S.length + (pre.length + (r.length + 1)) := by rw [hl]; simp
    by_cases hv : trailF pre.length b = 0
    · rw [if_pos hv] at h
      have hb : pre.length = 1 ∨ b = 1 := by
        unfold trailF at hv
        split at hv
        · cases hv
        · rename_i hn
          by_cases e : pre.length = 1
          · exact .inl e
          · right
            by_cases e2 : b = 1
            · exact e2
            · exact absurd ⟨e, e2⟩ hn
      have hp' : ∀ j, j < (pre ++ [b]).length → j ≠ 1 → (pre ++ [b])[j]? = some 1 := by
        intro j hj hj1
        simp at hj
        by_cases e : j < pre.length
        · rw [List.getElem?_append_left e]; exact hp j e hj1
        · obtain rfl : j = pre.length := by omega
          rcases hb with e2 | rfl
          · exact absurd e2 hj1
          · simp
      have hl' : l = S ++ ((pre ++ [b]) ++ r) := by rw [hl]; simp
      by_cases h10 : pre.length + 1 = 10
      · rw [if_pos h10] at h
        have hu : (pre ++ [b]).length = 10 := by simp; omega
        have hg : l.getD (S.length + 1) 0 = (pre ++ [b]).getD 1 0 := by
          rw [hl', get_ten]
          simp only [List.getD]
          rw [List.getElem?_append_left (by omega)]
        rw [hg] at h
        by_cases h0 : (pre ++ [b]).getD 1 0 = 0
        · rw [if_pos h0] at h
          simp only [Prod.mk.injEq] at h
          obtain ⟨rfl, rfl, rfl⟩ := h
          left
          refine ⟨rfl, rfl, rfl, r, ?_⟩
          rw [hl', ten_eq hu (fun j hj hj1 => hp' j (by omega) hj1) ?_]
          have e := getD_some (l := pre ++ [b]) (k := 1) (by omega)
          rw [h0] at e
          exact e
        · rw [if_neg h0] at h
          simp only [Prod.mk.injEq] at h
          obtain ⟨rfl, rfl, rfl⟩ := h
          right
          exact ⟨by decide, by omega, by omega, .inl rfl⟩
      · rw [if_neg h10] at h
        have e : pre.length + 1 = (pre ++ [b]).length := by simp
        rw [e] at h
        exact rdT_says l S f r (pre ++ [b]) hl' (by simp; omega) hp' y a p h
    · rw [if_neg hv] at h
      simp only [Prod.mk.injEq] at h
      obtain ⟨rfl, rfl, rfl⟩ := h
      right
      exact ⟨by decide, by omega, by omega, .inr rfl⟩
theorem stuffed_no2 {H P : List Int} {b : Int} (h : stuffedF H P b = 0) : ¬ (fiveB H = true ∧ b = (runOf H).1) := by
  intro e
  unfold stuffedF at h
  rw [if_pos e] at h
  cases h
theorem stuffed_judged {H P : List Int} {b : Int} (h : stuffedF H P b = 0) : judged (H ++ [b]) (plainOf H P b) = 0 := by
  have h2 := stuffed_no2 h
  unfold stuffedF at h
  rw [if_neg h2] at h
  exact h
theorem rdS_says (l : List Int) : ∀ (r H P : List Int), l = H ++ r → Inv H P → rightB H = true → rightB P = true → rightB r = true → ∀ y a p, rdS l H P r = (y, a, p) → Says l y a p
  | [], H, P, hl, _, _, _, _, y, a, p, h => by
    simp only [rdS, Prod.mk.injEq] at h
    obtain ⟨rfl, rfl, rfl⟩ := h
    right
    refine ⟨by decide, by omega, ?_, .inr rfl⟩
    rw [hl]; simp
  | b :: r, H, P, hl, hI, hrH, hrP, hrr, y, a, p, h => by
    have hb : b = 0 ∨ b = 1 := rightB_at hrr (k := 0) rfl
    have hrr' : rightB r = true := rightB_drop hrr 1
    have hll : l.length = H.length + (r.length + 1) := by rw [hl]; simp
    simp only [rdS] at h
    by_cases hv : stuffedF H P b = 0
    · rw [if_pos hv] at h
      have hI' := hI.step hrH hb (stuffed_no2 hv)
      have hrP' := plain_right (H := H) hrP hb
      have hrH' : rightB (H ++ [b]) = true := by rw [rightB_snoc, hrH]; simpa using hb
      have hl' : l = (H ++ [b]) ++ r := by rw [hl]; simp
      cases hw : wholeB (H ++ [b]) (plainOf H P b) with
      | true =>
        rw [hw] at h
        simp only [if_true] at h
        obtain ⟨T, ID, L, ht, hPT, hHT⟩ := whole_told hI' hrP' hw (stuffed_judged hv)
        have e : H.length + 1 = (H ++ [b]).length := by simp
        rw [e] at h
        rcases rdT_says l (H ++ [b]) _ r [] (by rw [hl']; rfl) (by simp) (fun j hj => by simp at hj) y a p h with ⟨h1, h2, h3, more, h4⟩ | h1
        · left
          refine ⟨h1, h2, T, ID, L, by rw [h3]; exact ht, more, ?_⟩
          rw [h4, hHT]
        · right; exact h1
      | false =>
        rw [hw] at h
        simp only [Bool.false_eq_true, if_false] at h
        exact rdS_says l r (H ++ [b]) (plainOf H P b) hl' hI' hrH' hrP' hrr' y a p h
    · rw [if_neg hv] at h
      simp only [Prod.mk.injEq] at h
      obtain ⟨rfl, rfl, rfl⟩ := h
      right
      exact ⟨hv, by omega, by omega, .inr rfl⟩
theorem wire_says {l : List Int} (hr : rightB l = true) {y : Fr} {a p : Int} (h : wireRd l = (y, a, p)) : Says l y a p :=
  rdS_says l l [] [] rfl Inv.start rfl rfl hr y a p h

end Go.Proofs.Ytmapkjjglhpamaa
