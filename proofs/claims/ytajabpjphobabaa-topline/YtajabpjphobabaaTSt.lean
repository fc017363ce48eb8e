/-
  Run · Follow · Stuff · Strip: what this seat needs of them.
-/
import Derived.Test.YtajabpjphobabaaTBi
import Derived.Test.YtajabpjphobabaaTFr
import Derived.Test.YtajabpjphobabaaBase
import Derived.RangeFuncBox
import Derived.RangeFuncNested
import Derived.RangeFuncLeaves
import Derived.Shelf.Abstract
import Derived.OwnWalkIn
import Derived.TacticsInMore
import Derived.LoopNIn
import Derived.LoopIn
import Derived.WalkMore
namespace Go.Proofs.Ytajabpjphobabaa
open Go.RowKit
set_option linter.unusedVariables false
set_option linter.unusedSimpArgs false

/-- The current run (its bit, its length), one bit on. -/
def tick (s : Int × Nat) (x : Int) : Int × Nat := (x, if x = s.1 then s.2 + 1 else 1)

/-- The run that a row ends with. -/
def runOf (l : List Int) : Int × Nat := l.foldl tick (0, 0)

theorem runOf_snoc (l : List Int) (x : Int) : runOf (l ++ [x]) = tick (runOf l) x := by simp [runOf]

theorem tick_same (s : Int × Nat) : tick s s.1 = (s.1, s.2 + 1) := by simp [tick]

theorem tick_other {s : Int × Nat} {x : Int} (h : x ≠ s.1) : tick s x = (x, 1) := by simp [tick, h]

theorem tick_pos (s : Int × Nat) (x : Int) : 1 ≤ (tick s x).2 := by unfold tick; split <;> simp

theorem tick_le (s : Int × Nat) (x : Int) : (tick s x).2 ≤ s.2 + 1 := by unfold tick; split <;> simp

theorem tick_fst (s : Int × Nat) (x : Int) : (tick s x).1 = x := rfl

theorem tick_opp (s : Int × Nat) (x : Int) : tick (tick s x) (1 - x) = (1 - x, 1) := tick_other (by simp [tick]; omega)

/-- What is stuffed of a row, from a run on. -/
def stuffF : Int × Nat → List Int → List Int
  | _, [] => []
  | s, x :: l => if (tick s x).2 = 5 then x :: (1 - x) :: stuffF (1 - x, 1) l else x :: stuffF (tick s x) l

def stuffL (l : List Int) : List Int := stuffF (0, 0) l

/-- The run behind what is stuffed. -/
def stuffS : Int × Nat → List Int → Int × Nat
  | s, [] => s
  | s, x :: l => if (tick s x).2 = 5 then stuffS (1 - x, 1) l else stuffS (tick s x) l

theorem stuffF_append : ∀ (a b : List Int) (s : Int × Nat), stuffF s (a ++ b) = stuffF s a ++ stuffF (stuffS s a) b
  | [], b, s => by simp [stuffF, stuffS]
  | x :: a, b, s => by
    simp only [List.cons_append, stuffF, stuffS]
    split
    · simp [stuffF_append a b]
    · simp [stuffF_append a b]

theorem stuffS_append : ∀ (a b : List Int) (s : Int × Nat), stuffS s (a ++ b) = stuffS (stuffS s a) b
  | [], b, s => by simp [stuffS]
  | x :: a, b, s => by
    simp only [List.cons_append, stuffS]
    split <;> exact stuffS_append a b _

theorem stuffS_le : ∀ (l : List Int) (s : Int × Nat), s.2 ≤ 4 → (stuffS s l).2 ≤ 4
  | [], s, h => h
  | x :: l, s, h => by
    simp only [stuffS]
    have := tick_le s x
    split
    · exact stuffS_le l _ (by simp)
    · exact stuffS_le l _ (by omega)

/-- The run behind what is stuffed is the run that it ends with. -/
theorem stuffS_run : ∀ (l : List Int) (s : Int × Nat), (stuffF s l).foldl tick s = stuffS s l
  | [], s => rfl
  | x :: l, s => by
    simp only [stuffF, stuffS]
    split
    · rw [List.foldl_cons, List.foldl_cons, tick_opp]; exact stuffS_run l _
    · rw [List.foldl_cons]; exact stuffS_run l _

theorem runOf_stuff (l : List Int) : runOf (stuffL l) = stuffS (0, 0) l := stuffS_run l _

/-- What is stripped of a row, from a run on; and the place of the fault. -/
def stripF : Int × Nat → List Int → List Int × Option Nat
  | s, [] => ([], if s.2 = 5 then some 0 else none)
  | s, x :: l => if 5 < (tick s x).2 then ([], some 0) else ((if s.2 < 5 then x :: (stripF (tick s x) l).1 else (stripF (tick s x) l).1), (stripF (tick s x) l).2.map (· + 1))

def placeI : Option Nat → Int
  | some p => p
  | none => -1

/-- Stuffed and stripped. -/
theorem strip_stuffF : ∀ (l : List Int) (s : Int × Nat), s.2 ≤ 4 → stripF s (stuffF s l) = (l, none)
  | [], s, h => by simp [stuffF, stripF]; omega
  | x :: l, s, h => by
    have h1 := tick_le s x
    simp only [stuffF]
    by_cases h5 : (tick s x).2 = 5
    · rw [if_pos h5]
      simp only [stripF]
      rw [tick_opp, if_neg (by omega), if_pos (by omega), if_neg (by simp), if_neg (by omega), strip_stuffF l _ (by simp)]
      rfl
    · rw [if_neg h5]
      simp only [stripF]
      rw [if_neg (by omega), if_pos (by omega), strip_stuffF l _ (by omega)]
      rfl

/-- Stripped without a fault, and stuffed again. -/
theorem stuff_stripF : ∀ (n : Nat) (l : List Int), l.length ≤ n → ∀ (s : Int × Nat) (a : List Int), rightB l = true → s.2 ≤ 4 → stripF s l = (a, none) → stuffF s a = l
  | _, [], _, s, a, _, _, h => by simp [stripF] at h; obtain ⟨rfl, _⟩ := h; rfl
  | 0, x :: l, hn, _, _, _, _, _ => by simp at hn
  | n + 1, x :: l, hn, s, a, hr, hs, h => by
    have h1 := tick_le s x
    have hr1 : rightB [x] = true ∧ rightB l = true := by rw [show x :: l = [x] ++ l from rfl, rightB_append] at hr; simpa using hr
    simp only [stripF] at h
    rw [if_neg (by omega), if_pos (by omega)] at h
    simp only [Prod.mk.injEq, Option.map_eq_none_iff] at h
    obtain ⟨rfl, h2⟩ := h
    simp only [stuffF]
    by_cases h5 : (tick s x).2 = 5
    · rw [if_pos h5]
      cases l with
      | nil => simp [stripF, h5] at h2
      | cons y l =>
        have hr2 : rightB [y] = true ∧ rightB l = true := by have := hr1.2; rw [show y :: l = [y] ++ l from rfl, rightB_append] at this; simpa using this
        have hx : x = 0 ∨ x = 1 := rightB_at hr1.1 (k := 0) rfl
        have hy : y = 0 ∨ y = 1 := rightB_at hr2.1 (k := 0) rfl
        by_cases hxy : y = x
        · exfalso
          subst hxy
          have : tick (tick s y) y = (y, (tick s y).2 + 1) := tick_same (tick s y)
          simp [stripF, this, h5] at h2
        · have hxy' : y = 1 - x := by omega
          subst hxy'
          simp only [stripF, tick_opp] at h2 ⊢
          rw [if_neg (by simp)] at h2
          rw [if_neg (by simp), if_neg (by omega)]
          simp only [Option.map_eq_none_iff] at h2
          rw [stuff_stripF n l (by simp at hn ⊢; omega) (1 - x, 1) _ hr2.2 (by simp) (by rw [← h2])]
    · rw [if_neg h5]
      rw [stuff_stripF n l (by simpa using hn) (tick s x) _ hr1.2 (by omega) (by rw [← h2])]

/-- Beginnings. -/
theorem stuffF_take (l : List Int) (s : Int × Nat) (k : Nat) : stuffF s (l.take k) <+: stuffF s l := by
  conv => rhs; rw [← List.take_append_drop k l, stuffF_append]
  exact List.prefix_append _ _

theorem stripF_take : ∀ (l : List Int) (s : Int × Nat) (k : Nat), (stripF s (l.take k)).1 <+: (stripF s l).1
  | [], s, k => by simp
  | x :: l, s, 0 => by simp [stripF]
  | x :: l, s, k + 1 => by
    simp only [List.take_succ_cons, stripF]
    split
    · exact List.prefix_refl _
    · split
      · exact List.cons_prefix_cons.2 ⟨rfl, stripF_take l _ k⟩
      · exact stripF_take l _ k

/-- The longest run of a row, from a run on. -/
def runsF : Int × Nat → List Int → Nat
  | _, [] => 0
  | s, x :: l => max (tick s x).2 (runsF (tick s x) l)

def runsL (l : List Int) : Nat := runsF (0, 0) l

theorem runs_stuffF : ∀ (l : List Int) (s : Int × Nat), s.2 ≤ 4 → runsF s (stuffF s l) ≤ 5
  | [], s, h => by simp [stuffF, runsF]
  | x :: l, s, h => by
    have h1 := tick_le s x
    simp only [stuffF]
    split
    · simp only [runsF, tick_opp]
      have := runs_stuffF l (1 - x, 1) (by simp)
      omega
    · simp only [runsF]
      have := runs_stuffF l (tick s x) (by omega)
      omega

theorem stuffF_runs : ∀ (l : List Int) (s : Int × Nat), s.2 ≤ 4 → min 5 (runsF s l) ≤ runsF s (stuffF s l)
  | [], s, h => by simp [stuffF, runsF]
  | x :: l, s, h => by
    have h1 := tick_le s x
    simp only [stuffF]
    split
    · simp only [runsF]
      omega
    · simp only [runsF]
      have := stuffF_runs l (tick s x) (by omega)
      omega

/-- Where the longest run has six bits there is a fault ahead of the end; otherwise none, or one at the end. -/
theorem strip_runs : ∀ (l : List Int) (s : Int × Nat), s.2 ≤ 5 → (5 < runsF s l → ∃ p, (stripF s l).2 = some p ∧ p < l.length) ∧ (runsF s l ≤ 5 → (stripF s l).2 = none ∨ (stripF s l).2 = some l.length)
  | [], s, h => by
    constructor
    · intro h; simp [runsF] at h
    · intro _; simp only [stripF]; split <;> simp
  | x :: l, s, h => by
    simp only [stripF, runsF]
    by_cases h6 : 5 < (tick s x).2
    · rw [if_pos h6]
      exact ⟨fun _ => ⟨0, rfl, by simp⟩, fun h => by omega⟩
    · rw [if_neg h6]
      obtain ⟨i1, i2⟩ := strip_runs l (tick s x) (by omega)
      constructor
      · intro h
        obtain ⟨p, hp, hl⟩ := i1 (by omega)
        exact ⟨p + 1, by simp [hp], by simp; omega⟩
      · intro h
        rcases i2 (by omega) with e | e <;> simp [e]

/-- How much is put in. -/
theorem stuffF_len : ∀ (l : List Int) (s : Int × Nat), s.2 ≤ 4 → l.length ≤ (stuffF s l).length ∧ 4 * ((stuffF s l).length - l.length) ≤ s.2 + l.length - 1
  | [], s, h => by simp [stuffF]
  | x :: l, s, h => by
    have h1 := tick_le s x
    have h0 := tick_pos s x
    simp only [stuffF]
    split
    · have := stuffF_len l (1 - x, 1) (by simp)
      simp only [List.length_cons] at *
      omega
    · have := stuffF_len l (tick s x) (by omega)
      simp only [List.length_cons] at *
      omega

theorem stuffL_len (l : List Int) : l.length ≤ (stuffL l).length ∧ 4 * ((stuffL l).length - l.length) ≤ l.length - 1 := by
  have := stuffF_len l (0, 0) (by simp)
  simp only [Nat.zero_add] at this
  exact this

/-- The place of a fault. -/
theorem strip_place : ∀ (l : List Int) (s : Int × Nat) (p : Nat), s.2 ≤ 5 → (stripF s l).2 = some p →
    p ≤ l.length ∧ (stripF s l).1.length ≤ p ∧ ((l.take p).foldl tick s).2 = 5 ∧ (∀ x, l[p]? = some x → x = ((l.take p).foldl tick s).1) ∧ stripF s (l.take p) = ((stripF s l).1, some p)
  | [], s, p, h, hp => by
    simp only [stripF] at hp
    split at hp
    · rename_i h5
      cases hp
      simp [stripF, h5]
    · cases hp
  | x :: l, s, p, h, hp => by
    simp only [stripF] at hp ⊢
    by_cases h6 : 5 < (tick s x).2
    · rw [if_pos h6] at hp ⊢
      cases hp
      have h1 := tick_le s x
      have h5 : s.2 = 5 := by omega
      have hx : x = s.1 := by
        by_cases e : x = s.1
        · exact e
        · rw [tick_other e] at h6; simp at h6
      simp [stripF, h5, hx]
    · rw [if_neg h6] at hp ⊢
      obtain ⟨q, hq, rfl⟩ := Option.map_eq_some_iff.1 hp
      obtain ⟨a1, a2, a3, a4, a5⟩ := strip_place l (tick s x) q (by omega) hq
      refine ⟨by simp; omega, ?_, by simpa using a3, by simpa using a4, ?_⟩
      · split
        · simp; omega
        · simp only; omega
      · simp only [List.take_succ_cons, stripF, if_neg h6, a5, Option.map_some]

theorem strip_len : ∀ (l : List Int) (s : Int × Nat), (stripF s l).1.length ≤ l.length
  | [], s => by simp [stripF]
  | x :: l, s => by
    have := strip_len l (tick s x)
    simp only [stripF]
    split
    · simp
    · split
      · simp; omega
      · simp only [List.length_cons]; omega

/-- A run lies at a row's end. -/
theorem runOf_le (l : List Int) : (runOf l).2 ≤ l.length := by
  induction h : l.length generalizing l with
  | zero => obtain rfl := List.eq_nil_of_length_eq_zero h; simp [runOf]
  | succ n ih =>
    rcases snoc_cases l with rfl | ⟨l', x, rfl⟩
    · simp at h
    · have := ih l' (by simpa using h)
      have := tick_le (runOf l') x
      rw [runOf_snoc]; omega

theorem runOf_at (l : List Int) : ∀ j, l.length ≤ j + (runOf l).2 → j < l.length → l[j]? = some (runOf l).1 := by
  induction h : l.length generalizing l with
  | zero => intro j _ hj; omega
  | succ n ih =>
    rcases snoc_cases l with rfl | ⟨l', x, rfl⟩
    · simp at h
    · have hl : l'.length = n := by simpa using h
      intro j hj hlt
      rw [runOf_snoc] at hj ⊢
      rw [tick_fst]
      by_cases hjn : j = n
      · subst hjn; simp [← hl]
      · rw [List.getElem?_append_left (by omega)]
        by_cases e : x = (runOf l').1
        · have e2 : (tick (runOf l') x).2 = (runOf l').2 + 1 := by rw [e, tick_same]
          rw [e]
          exact ih l' hl j (by omega) (by omega)
        · have e2 : (tick (runOf l') x).2 = 1 := by rw [tick_other e]
          omega

/-- Five alike at the end: what the document's own answer asks. -/
def fiveB (l : List Int) : Bool := decide (5 ≤ (runOf l).2)

theorem fiveB_short {l : List Int} (h : l.length < 5) : fiveB l = false := by
  have := runOf_le l
  unfold fiveB; simp; omega

theorem runOf_last {l : List Int} (h : 0 < l.length) : l[l.length - 1]? = some (runOf l).1 := by
  rcases snoc_cases l with rfl | ⟨l', x, rfl⟩
  · simp at h
  · simp [runOf_snoc, tick_fst]

theorem fiveB_yes {l : List Int} (h5 : 5 ≤ l.length) (h : ∀ j, l.length - 5 ≤ j → j < l.length → l[j]? = some (runOf l).1) : fiveB l = true := by
  have key : ∀ (n : Nat) (l : List Int) (v : Int), n ≤ l.length → (∀ j, l.length - n ≤ j → j < l.length → l[j]? = some v) → n ≤ (runOf l).2 := by
    intro n
    induction n with
    | zero => intros; omega
    | succ n ih =>
      intro l v hn hv
      rcases snoc_cases l with rfl | ⟨l', x, rfl⟩
      · simp at hn
      · simp at hn hv
        have hx : x = v := by
          have := hv l'.length (by omega) (by omega)
          simpa using this
        subst hx
        have hv' : ∀ j, l'.length - n ≤ j → j < l'.length → l'[j]? = some x := by
          intro j h1 h2
          have := hv j (by omega) (by omega)
          rwa [List.getElem?_append_left h2] at this
        have := ih l' x (by omega) hv'
        rw [runOf_snoc]
        by_cases e : x = (runOf l').1
        · rw [e, tick_same]; simp; omega
        · rw [tick_other e]
          cases n with
          | zero => simp
          | succ m =>
            exfalso
            have h1 := hv' (l'.length - 1) (by omega) (by omega)
            rw [runOf_last (by omega)] at h1
            cases h1
            exact e rfl
  unfold fiveB
  simp only [decide_eq_true_eq]
  exact key 5 l _ h5 h

theorem fiveB_no {l : List Int} (h5 : 5 ≤ l.length) {j : Nat} (h1 : l.length - 5 ≤ j) (h2 : j < l.length) {x : Int} (hx : l[j]? = some x) (hne : x ≠ (runOf l).1) : fiveB l = false := by
  unfold fiveB
  simp only [decide_eq_false_iff_not]
  intro h
  have := runOf_at l j (by omega) h2
  rw [hx] at this
  cases this
  exact hne rfl

/-- The opposites. -/
def turned (l : List Int) : List Int := l.map (1 - ·)

def Opp (s t : Int × Nat) : Prop := s.2 = t.2 ∧ (s.2 = 0 ∨ t.1 = 1 - s.1)

theorem Opp.tick {s t : Int × Nat} (h : Opp s t) (x : Int) : Opp (tick s x) (tick t (1 - x)) := by
  obtain ⟨h1, h2⟩ := h
  refine ⟨?_, .inr rfl⟩
  rcases h2 with h2 | h2
  · have e : t.2 = 0 := by omega
    simp [Go.Proofs.Ytajabpjphobabaa.tick, h2, e]
  · unfold Go.Proofs.Ytajabpjphobabaa.tick
    simp only
    by_cases e : x = s.1
    · rw [if_pos e, if_pos (by omega)]; omega
    · rw [if_neg e, if_neg (by omega)]

theorem stuffF_turned : ∀ (l : List Int) (s t : Int × Nat), Opp s t → stuffF t (turned l) = turned (stuffF s l)
  | [], _, _, _ => rfl
  | x :: l, s, t, h => by
    have hk := h.tick x
    simp only [turned, List.map_cons, stuffF]
    rw [← hk.1]
    split
    · simp only [List.map_cons]
      rw [show stuffF (1 - (1 - x), 1) (l.map (1 - ·)) = turned (stuffF (1 - x, 1) l) from stuffF_turned l _ _ ⟨rfl, .inr rfl⟩]
      rfl
    · simp only [List.map_cons]
      rw [show stuffF (Go.Proofs.Ytajabpjphobabaa.tick t (1 - x)) (l.map (1 - ·)) = turned (stuffF (Go.Proofs.Ytajabpjphobabaa.tick s x) l) from stuffF_turned l _ _ hk]
      rfl

theorem stripF_turned : ∀ (l : List Int) (s t : Int × Nat), Opp s t → stripF t (turned l) = (turned (stripF s l).1, (stripF s l).2)
  | [], s, t, h => by simp [turned, stripF, h.1]
  | x :: l, s, t, h => by
    have hk := h.tick x
    have ih := stripF_turned l _ _ hk
    have e := h.1
    simp only [turned, List.map_cons, stripF] at ih ⊢
    rw [← hk.1, ih, ← e]
    split
    · rfl
    · split <;> rfl

theorem runsF_turned : ∀ (l : List Int) (s t : Int × Nat), Opp s t → runsF t (turned l) = runsF s l
  | [], _, _, _ => rfl
  | x :: l, s, t, h => by
    have hk := h.tick x
    have ih := runsF_turned l _ _ hk
    simp only [turned, List.map_cons, runsF] at ih ⊢
    rw [← hk.1, ih]

/-- The lengths of the runs, each at its end. -/
def endsF : Int × Nat → List Int → List Nat
  | _, [] => []
  | s, [x] => [(tick s x).2]
  | s, x :: y :: l => if y = x then endsF (tick s x) (y :: l) else (tick s x).2 :: endsF (tick s x) (y :: l)

theorem ends_runs : ∀ (l : List Int) (s : Int × Nat) (m : Nat), (endsF s l).foldl max m = max m (runsF s l)
  | [], s, m => by simp [endsF, runsF]
  | [x], s, m => by simp [endsF, runsF]
  | x :: y :: l, s, m => by
    have ih := ends_runs (y :: l) (tick s x)
    by_cases e : y = x
    · have hs : (tick s x).2 ≤ runsF (tick s x) (y :: l) := by
        simp only [runsF]
        have : (tick (tick s x) y).2 = (tick s x).2 + 1 := by rw [e]; simp [tick]
        omega
      rw [endsF, if_pos e, ih m]
      show _ = max m (max (tick s x).2 (runsF (tick s x) (y :: l)))
      omega
    · rw [endsF, if_neg e, List.foldl_cons, ih]
      show _ = max m (max (tick s x).2 (runsF (tick s x) (y :: l)))
      omega

/-- The worst row. -/
def worstAt (i : Nat) : Int := (((i - 1) / 4 + 1) % 2 : Nat)

def worstL (n : Nat) : List Int := (List.range n).map worstAt

theorem worst_len : ∀ (m k : Nat), 1 ≤ k → (stuffF (worstAt k, (k - 1) % 4 + 1) ((List.range' k m).map worstAt)).length + (k - 1) / 4 = m + (k + m - 1) / 4
  | 0, k, h => by simp [stuffF]
  | m + 1, k, h => by
    have ih := worst_len m (k + 1) (by omega)
    rw [List.range'_succ, List.map_cons]
    simp only [stuffF]
    have ht : tick (worstAt k, (k - 1) % 4 + 1) (worstAt k) = (worstAt k, (k - 1) % 4 + 1 + 1) := tick_same _
    rw [ht]
    by_cases h5 : (k - 1) % 4 + 1 + 1 = 5
    · have e : (1 - worstAt k, 1) = (worstAt (k + 1), (k + 1 - 1) % 4 + 1) := by
        apply Prod.ext
        · show 1 - worstAt k = worstAt (k + 1)
          unfold worstAt
          omega
        · show 1 = (k + 1 - 1) % 4 + 1
          omega
      rw [if_pos h5, e]
      simp only [List.length_cons]
      omega
    · have e : (worstAt k, (k - 1) % 4 + 1 + 1) = (worstAt (k + 1), (k + 1 - 1) % 4 + 1) := by
        apply Prod.ext
        · show worstAt k = worstAt (k + 1)
          unfold worstAt
          omega
        · show (k - 1) % 4 + 1 + 1 = (k + 1 - 1) % 4 + 1
          omega
      rw [if_neg h5, e]
      simp only [List.length_cons]
      omega

theorem worstL_len (n : Nat) (h : 1 ≤ n) : (stuffL (worstL n)).length = n + (n - 1) / 4 := by
  obtain ⟨m, rfl⟩ : ∃ m, n = m + 1 := ⟨n - 1, by omega⟩
  have e : worstL (m + 1) = 1 :: (List.range' 1 m).map worstAt := by
    unfold worstL
    rw [List.range_eq_range', List.range'_succ]
    rfl
  rw [e]
  have := worst_len m 1 (by omega)
  have w1 : worstAt 1 = 1 := rfl
  rw [w1] at this
  have ht : tick (0, 0) 1 = (1, 1) := rfl
  simp only [stuffL, stuffF, ht]
  rw [if_neg (by decide)]
  simp only [List.length_cons]
  simp at this
  omega

open Go.RowKit Go.Shelf
attribute [local go_sem] Oper.semAt_some

/-- The two boxes of a follower hold the run s. -/
def Run2 (W : World) (B : Nat) (s : Int × Nat) : Prop := Boxed W B 3 (.int .i64 s.1) ∧ Boxed W (B + 1) 3 (.int .i64 s.2)

/-- Nothing but these two boxes has changed. -/
structure Only (B : Nat) (W W' : World) : Prop where
  size : W'.heap.size = W.heap.size
  below : Below B W W'
  block : ∀ k, k ≠ B → k ≠ B + 1 → W'.heap[k]? = W.heap[k]?

theorem Only.refl (B : Nat) (W : World) : Only B W W := ⟨rfl, Below.refl _ _, fun _ _ _ => rfl⟩

theorem Only.trans {B : Nat} {A W W' : World} (h : Only B A W) (k : Only B W W') : Only B A W' := ⟨k.size.trans h.size, h.below.trans k.below, fun i a b => (k.block i a b).trans (h.block i a b)⟩

theorem Only.set0 {B : Nat} (W : World) (v : Value) : Only B W (W.setCell ⟨B, 0, none⟩ v) := ⟨by simp [World.setCell], (Below.refl B W).setCell (p := ⟨B, 0, none⟩) (Nat.le_refl _) v, fun k h _ => Below.heap_setCell _ _ _ _ (by simpa using h)⟩

theorem Only.set1 {B : Nat} (W : World) (v : Value) : Only B W (W.setCell ⟨B + 1, 0, none⟩ v) := ⟨by simp [World.setCell], (Below.refl B W).setCell (p := ⟨B + 1, 0, none⟩) (Nat.le_succ _) v, fun k _ h => Below.heap_setCell _ _ _ _ (by simpa using h)⟩

theorem Only.boxed {B : Nat} {W W' : World} (h : Only B W W') {g : Nat} {t : TypeId} {v : Value} (hb : Boxed W g t v) (h0 : g ≠ B) (h1 : g ≠ B + 1) : Boxed W' g t v := (h.block g h0 h1).trans hb

theorem Only.own {B : Nat} {W W' : World} (h : Only B W W') {base : Nat} {e : TypeId} {size g k cap : Nat} {xs : List Value} (hr : W.ownsRow base e size (.slice (some ⟨g, 0, none⟩) k cap) k xs) (h0 : g ≠ B) (h1 : g ≠ B + 1) : W'.ownsRow base e size (.slice (some ⟨g, 0, none⟩) k cap) k xs := by
  refine ⟨hr.1, ?_⟩
  rcases hr.2 with ⟨e1, _⟩ | ⟨g', cap', cur, hv, hb, hg, hrest⟩
  · cases e1
  · have e2 : g = g' := by cases hv; rfl
    exact .inr ⟨g', cap', cur, hv, hb, (h.block g' (by omega) (by omega)).trans hg, hrest⟩

set_option maxHeartbeats 1000000 in
theorem follow_in (F : Fence) (n : Nat) (hf : F.fn 24) (hro : F.round = none) (w : World) :
    CallsIn F n Try.prog 24 #[] w fun e w' => e = .returned (.func (.func 42) #[] #[.pointer (some ⟨w.heap.size, 0, none⟩), .pointer (some ⟨w.heap.size + 1, 0, none⟩)]) ∧ Run2 w' w.heap.size (0, 0) ∧ Below w.heap.size w w' ∧ w'.heap.size = w.heap.size + 2 := by
  refine callsIn_of_wp Try.func24 rfl hf ?_ hro
  simp only [Try.ntmps24, List.size_toArray, List.length_nil, Nat.reduceSub, Array.replicate_succ, Array.replicate_zero, List.push_toArray, List.append_toArray, List.nil_append, List.cons_append]
  gi_wp2
  go_ret
  have b0 := Boxed.new w 3 (.int .i64 0)
  have b1 := Boxed.new (w.alloc (.cells #[.int .i64 0] 3)) 3 (.int .i64 0)
  simp only [World.size_alloc] at b1
  refine ⟨rfl, ⟨?_, ?_⟩, ?_, ?_⟩
  · first | exact b0.alloc _ | exact ((b0.alloc _).set _).other (by omega) _
  · first | exact b1 | exact (b1.other (by omega) _).set _
  · first | exact ((Below.refl _ _).alloc (Nat.le_refl _) _).alloc (by simp) _ | exact ((((Below.refl _ _).alloc (Nat.le_refl _) _).alloc (by simp) _).setCell (Nat.le_refl _) _).setCell (by simp) _
  · simp

set_option maxHeartbeats 1000000 in
theorem follow1_in (F : Fence) (n : Nat) (hf : F.fn 42) (hro : F.round = none) (W : World) (B : Nat) (s : Int × Nat) (x : Int) (h : Run2 W B s) (hs : s.2 < 4611686018427387904) :
    CallsIn F n Try.prog 42 #[.int .i64 x, .pointer (some ⟨B, 0, none⟩), .pointer (some ⟨B + 1, 0, none⟩)] W fun e w' => e = .returned (.int .i64 (tick s x).2) ∧ Run2 w' B (tick s x) ∧ Only B W w' := by
  obtain ⟨v, m⟩ := s
  obtain ⟨h0, h1⟩ := h
  simp only at h0 h1 hs
  have c0 := h0.cell
  have c1 := h1.cell
  have f0 := h0.frozen
  have f1 := h1.frozen
  by_cases e : x = v
  · subst e
    have ht : tick (x, m) x = (x, m + 1) := tick_same (x, m)
    have HT := Lib.hid ht
    clear ht
    have hw := h1.set (.int .i64 ((m : Int) + 1))
    have cw := hw.cell
    refine callsIn_of_wp Try.func42 rfl hf ?_ hro
    simp only [Try.ntmps42, List.size_toArray, List.length_cons, List.length_nil, Nat.reduceAdd, Nat.reduceSub, Array.replicate_succ, Array.replicate_zero, List.push_toArray, List.append_toArray, List.nil_append, List.cons_append]
    gi_wp2
    go_ret
    rw [HT.out]
    exact ⟨by simp, ⟨h0.other (by omega) _, by simpa using hw⟩, Only.set1 _ _⟩
  · have ht : tick (v, m) x = (x, 1) := tick_other e
    have HT := Lib.hid ht
    clear ht
    have d1 : (x != v) = true := by simp [e]
    have a0 := h0.set (.int .i64 x)
    have a1 := h1.other (show B + 1 ≠ B by omega) (.int .i64 x)
    have b0 := a0.other (show B ≠ B + 1 by omega) (.int .i64 0)
    have b1 := a1.set (.int .i64 0)
    have z0 := b0.other (show B ≠ B + 1 by omega) (.int .i64 1)
    have z1 := b1.set (.int .i64 1)
    have ca1 := a1.cell
    have fa1 := a1.frozen
    have cb1 := b1.cell
    have fb1 := b1.frozen
    have cz1 := z1.cell
    have A0 := Lib.hid a0
    have Z0 := Lib.hid z0
    have Z1 := Lib.hid z1
    clear a0 b0 z0 a1 b1 z1 h0 h1
    refine callsIn_of_wp Try.func42 rfl hf ?_ hro
    simp only [Try.ntmps42, List.size_toArray, List.length_cons, List.length_nil, Nat.reduceAdd, Nat.reduceSub, Array.replicate_succ, Array.replicate_zero, List.push_toArray, List.append_toArray, List.nil_append, List.cons_append]
    gi_wp2
    go_ret
    rw [HT.out]
    exact ⟨rfl, ⟨Z0.out, Z1.out⟩, ((Only.set0 _ _).trans (Only.set1 _ _)).trans (Only.set1 _ _)⟩

theorem follow_any (w : World) :
    Calls Try.prog 24 #[] w fun e w' => e = .returned (.func (.func 42) #[] #[.pointer (some ⟨w.heap.size, 0, none⟩), .pointer (some ⟨w.heap.size + 1, 0, none⟩)]) ∧ Run2 w' w.heap.size (0, 0) ∧ Below w.heap.size w w' ∧ w'.heap.size = w.heap.size + 2 :=
  callsIn_wide.1 (follow_in Fence.wide 3 trivial rfl w)

theorem follow1_any (W : World) (B : Nat) (s : Int × Nat) (x : Int) (h : Run2 W B s) (hs : s.2 < 4611686018427387904) :
    Calls Try.prog 42 #[.int .i64 x, .pointer (some ⟨B, 0, none⟩), .pointer (some ⟨B + 1, 0, none⟩)] W fun e w' => e = .returned (.int .i64 (tick s x).2) ∧ Run2 w' B (tick s x) ∧ Only B W w' :=
  callsIn_wide.1 (follow1_in Fence.wide 3 trivial rfl W B s x h hs)

theorem follow1_at {W : World} {B : Nat} {s : Int × Nat} (x : Int) (m : Nat) (hm : tick s x = (x, m)) (h : Run2 W B s) (hs : s.2 < 4611686018427387904) :
    Calls Try.prog 42 #[.int .i64 x, .pointer (some ⟨B, 0, none⟩), .pointer (some ⟨B + 1, 0, none⟩)] W fun e w' => e = .returned (.int .i64 m) ∧ Run2 w' B (x, m) ∧ Only B W w' := by
  have := follow1_any W B s x h hs
  rw [hm] at this
  exact this

theorem opposite_any (x : Int) (hx : x = 0 ∨ x = 1) (W : World) :
    Calls Try.prog 31 #[.int .i64 x] W fun e w' => e = .returned (.int .i64 (1 - x)) ∧ W = w' := by
  rcases hx with rfl | rfl
  all_goals
    go_enter Try.func31, Try.ntmps31
    go_wp2
    go_ret
    exact ⟨rfl, rfl⟩

theorem drop_at {l : List Int} {k : Nat} {x : Int} (hx : l[k]? = some x) : l.drop k = x :: l.drop (k + 1) := by
  obtain ⟨h1, h2⟩ := List.getElem?_eq_some_iff.1 hx
  rw [List.drop_eq_getElem_cons h1, h2]

/-- Behind an append that fits: the follower's boxes lie as they lay. -/
theorem Run2.fits {W w1 : World} {B g : Nat} {s : Int × Nat} {o : Obj} (h : Run2 W B s) (hg : (W.alloc o).grownBy w1 (some g)) (h0 : g ≠ B) (h1 : g ≠ B + 1) : Run2 w1 B s :=
  ⟨(h.1.alloc o).kept hg (fun e => h0 (by cases e; rfl)), (h.2.alloc o).kept hg (fun e => h1 (by cases e; rfl))⟩

theorem below_fits {W w1 : World} {n g : Nat} {o : Obj} (hg : (W.alloc o).grownBy w1 (some g)) (hn : n ≤ W.heap.size) (h : n ≤ g) : Below n W w1 :=
  ((Below.refl n W).alloc hn o).grown hg (by simp; omega) (fun k e => by cases e; exact h)

theorem stuffF_snoc {l : List Int} {k : Nat} {x : Int} (hx : l[k]? = some x) (s : Int × Nat) : stuffF s (l.take (k + 1)) = stuffF s (l.take k) ++ stuffF (stuffS s (l.take k)) [x] := by rw [take_snoc hx, stuffF_append]

theorem stuffS_snoc {l : List Int} {k : Nat} {x : Int} (hx : l[k]? = some x) (s : Int × Nat) : stuffS s (l.take (k + 1)) = stuffS (stuffS s (l.take k)) [x] := by rw [take_snoc hx, stuffS_append]

theorem stuffL_take_len (l : List Int) (k : Nat) (hk : k ≤ l.length) : (stuffL (l.take k)).length ≤ k + k / 4 := by
  have := stuffL_len (l.take k)
  rw [List.length_take, Nat.min_eq_left hk] at this
  omega

set_option maxRecDepth 100000 in
set_option maxHeartbeats 2000000 in
theorem stuff_any (l : List Int) (A : Option Addr) (c : Nat) (w : World) (h : Row .i64 w w.heap.size A l) (hr : rightB l = true) (hm : l.length ≤ 100000) :
    Calls Try.prog 14 #[.slice A l.length c] w fun e w' => ∃ cap, e = .returned (.slice (some ⟨w.heap.size, 0, none⟩) (stuffL l).length cap) ∧
      w'.ownsRow w.heap.size 3 1 (.slice (some ⟨w.heap.size, 0, none⟩) (stuffL l).length cap) (stuffL l).length ((stuffL l).map (Value.int .i64)) ∧ Below w.heap.size w w' := by
  obtain ⟨i0, hi, hz0, hz1, hz2⟩ := info_parts Try.infoInt
  have HR := Lib.hid hr
  clear hr
  go_enter Try.func14, Try.ntmps14
  go_wp2_with (first
    | (at_make; refine wpList_make_own _ rfl _ _ 27 rfl w.heap.size 3 i0 (.int .i64 0) 1 Try.underlying27 hi hz0 hz1 _ _ _ (l.length + l.length / 4) rfl rfl (by go_num) (by rw [hz2]; omega) (by unfold maxLen; omega) (Nat.le_refl _) ?_; intro w0 hown0 hgrow0)
    | (go_at_call 24; refine (follow_any _).mono ?_; rintro e w1 ⟨rfl, hrun, hB1, hz⟩))
  have hg0 := (hown0.lt w.heap.size rfl).2
  have hB0 : Below w.heap.size w w1 := ((Below.refl _ _).grown hgrow0 (Nat.le_refl _) (fun k h => by cases h)).trans (hB1.mono hgrow0.size)
  have hown1 := own_to hown0 hB1
  clear hB1 hgrow0 hown0
  go_loopw [3, 18] (fun o i wr => ∃ (k m : Nat), k ≤ l.length ∧ i = .int .i64 k ∧ (stuffL (l.take k)).length = m ∧ o = .slice (some ⟨w.heap.size, 0, none⟩) m (l.length + l.length / 4) ∧
      wr.ownsRow w.heap.size 3 1 (.slice (some ⟨w.heap.size, 0, none⟩) m (l.length + l.length / 4)) m ((stuffL (l.take k)).map (Value.int .i64)) ∧ Run2 wr w0.heap.size (stuffS (0, 0) (l.take k)) ∧ Below w.heap.size w wr)
    (fun _ i _ => l.length - (intOf i).toNat)
  case atStart => exact ⟨0, 0, Nat.zero_le _, rfl, rfl, rfl, hown1, hrun, hB0⟩
  case round =>
    clear hown1 hrun hB0 hz
    obtain ⟨k, m, hk, rfl, hml, rfl, hown, hrun, hB⟩ := hrel
    have hsz := hB.size
    by_cases hlt : k < l.length
    · obtain ⟨ad, x, rfl, hx, hc⟩ := (h.below hB).get_ hlt
      have hb := rightB_at HR.out hx
      have hfit : m ≤ k + k / 4 := by rw [← hml]; exact stuffL_take_len l k hk
      have hfit2 : (stuffL (l.take (k + 1))).length ≤ k + 1 + (k + 1) / 4 := stuffL_take_len l (k + 1) (by omega)
      have hs4 := stuffS_le (l.take k) (0, 0) (by simp)
      have e1 := stuffF_snoc hx (0, 0)
      have e2 := stuffS_snoc hx (0, 0)
      obtain ⟨s, hs⟩ : ∃ s, stuffS (0, 0) (l.take k) = s := ⟨_, rfl⟩
      rw [hs] at e1 e2 hs4 hrun
      clear hs
      have hs62 : s.2 < 4611686018427387904 := by omega
      obtain ⟨q, hq⟩ : ∃ q, tick s x = (x, q) := ⟨_, rfl⟩
      have HB := Lib.hid hb
      have Hq := Lib.hid hq
      have Hml := Lib.hid hml
      clear hb hml
      by_cases h5 : q = 5
      · subst h5
        have e1' : stuffL (l.take (k + 1)) = stuffL (l.take k) ++ [x, 1 - x] := by
          show stuffF _ _ = stuffF _ _ ++ _
          rw [e1]; simp [stuffF, hq]
        have e2' : stuffS (0, 0) (l.take (k + 1)) = (1 - x, 1) := by rw [e2]; simp [stuffS, hq]
        have l2 : (stuffL (l.take (k + 1))).length = m + 1 + 1 := by rw [e1', List.length_append, Hml.out]; rfl
        rw [l2] at hfit2
        have ht2 : tick (x, 5) (1 - x) = (1 - x, 1) := tick_other (by simp; omega)
        have Ht2 := Lib.hid ht2
        have E1 := Lib.hid e1'
        have E2 := Lib.hid e2'
        have L2 := Lib.hid l2
        clear hx e1 e2 e1' e2' hq l2 ht2
        go_wp2_with (first
          | (at_builtin; have hq_ := hown3; clear hq_; refine wpList_append_fits _ rfl _ _ 27 rfl w.heap.size 3 i0 1 Try.underlying27 hi hz1 w.heap.size (m + 1) (l.length + l.length / 4) _ rfl (hown3.alloc _) ⟨w3.heap.size, 0, none⟩ 1 1 [.int .i64 (1 - x)] rfl rfl (cell_one_new _ _ _) (by simp [Value.oneCell']) (by omega) ?_; intro w4 hown4 hgrow4; have hrun4 := hrun3.fits hgrow4 (by omega) (by omega))
          | (at_builtin; refine wpList_append_fits _ rfl _ _ 27 rfl w.heap.size 3 i0 1 Try.underlying27 hi hz1 w.heap.size m (l.length + l.length / 4) _ rfl (hown.alloc _) ⟨wr.heap.size, 0, none⟩ 1 1 [.int .i64 x] rfl rfl (cell_one_new _ _ _) (by simp [Value.oneCell']) (by omega) ?_; intro w2 hown2 hgrow2; have hrun2 := hrun.fits hgrow2 (by omega) (by omega); have hB2 := below_fits hgrow2 hsz (Nat.le_refl _))
          | (go_at_call 42; have hq_ := hrun4; clear hq_; refine (follow1_at (1 - x) 1 Ht2.out hrun4 (by simp)).mono ?_; rintro e w5 ⟨rfl, hrun5, hO5⟩)
          | (go_at_call 42; refine (follow1_at x 5 Hq.out hrun2 hs62).mono ?_; rintro e w3 ⟨rfl, hrun3, hO3⟩; have hown3 := hO3.own hown2 (by omega) (by omega))
          | (go_at_call 31; refine (opposite_any x HB.out _).mono ?_; rintro e w3' ⟨rfl, rfl⟩))
        have hB3 := hB2.trans (hO3.below.mono (by omega))
        have hB4 := hB3.trans (below_fits hgrow4 (by rw [hO3.size]; have := hB2.size; omega) (Nat.le_refl _))
        have hBB := hB.trans (hB4.trans (hO5.below.mono (by omega)))
        have hown5 := hO5.own hown4 (by omega) (by omega)
        refine ⟨⟨k + 1, m + 1 + 1, by omega, by go_num, L2.out, rfl, ?_, ?_, hBB⟩, by simp [intOf]; omega⟩
        · rw [E1.out, List.map_append]
          simpa using hown5
        · rw [E2.out]; exact hrun5
      · have e1' : stuffL (l.take (k + 1)) = stuffL (l.take k) ++ [x] := by
          show stuffF _ _ = stuffF _ _ ++ _
          rw [e1]; simp [stuffF, hq, h5]
        have e2' : stuffS (0, 0) (l.take (k + 1)) = (x, q) := by rw [e2]; simp [stuffS, hq, h5]
        have l2 : (stuffL (l.take (k + 1))).length = m + 1 := by rw [e1', List.length_append, Hml.out]; rfl
        rw [l2] at hfit2
        have d5 : ((q : Int) == 5) = false := by simp; omega
        have E1 := Lib.hid e1'
        have E2 := Lib.hid e2'
        have L2 := Lib.hid l2
        clear hx e1 e2 e1' e2' hq l2
        go_wp2_with (first
          | (at_builtin; refine wpList_append_fits _ rfl _ _ 27 rfl w.heap.size 3 i0 1 Try.underlying27 hi hz1 w.heap.size m (l.length + l.length / 4) _ rfl (hown.alloc _) ⟨wr.heap.size, 0, none⟩ 1 1 [.int .i64 x] rfl rfl (cell_one_new _ _ _) (by simp [Value.oneCell']) (by omega) ?_; intro w2 hown2 hgrow2; have hrun2 := hrun.fits hgrow2 (by omega) (by omega); have hB2 := below_fits hgrow2 hsz (Nat.le_refl _))
          | (go_at_call 42; refine (follow1_at x q Hq.out hrun2 hs62).mono ?_; rintro e w3 ⟨rfl, hrun3, hO3⟩; have hown3 := hO3.own hown2 (by omega) (by omega)))
        have hBB := hB.trans (hB2.trans (hO3.below.mono (by omega)))
        refine ⟨⟨k + 1, m + 1, by omega, by go_num, L2.out, rfl, ?_, ?_, hBB⟩, by simp [intOf]; omega⟩
        · rw [E1.out, List.map_append]
          exact hown3
        · rw [E2.out]; exact hrun3
    · obtain rfl : k = l.length := by omega
      rw [List.take_length] at hml hown
      subst hml
      go_wp2
      go_ret
      exact ⟨_, rfl, hown, hB⟩

def stripL (l : List Int) : List Int × Option Nat := stripF (0, 0) l

/-- What is left to be done at place k, with the bits o appended and the run s. -/
def Left (l o : List Int) (s : Int × Nat) (k : Nat) : Prop := stripL l = (o ++ (stripF s (l.drop k)).1, (stripF s (l.drop k)).2.map (· + k))

theorem Left.start (l : List Int) : Left l [] (0, 0) 0 := by
  unfold Left stripL
  simp

theorem Left.fault {l o : List Int} {s : Int × Nat} {k : Nat} {x : Int} (h : Left l o s k) (hx : l[k]? = some x) (h6 : 5 < (tick s x).2) : stripL l = (o, some k) := by
  unfold Left at h
  rw [drop_at hx] at h
  simpa [stripF, h6] using h

theorem Left.keep {l o : List Int} {s : Int × Nat} {k : Nat} {x : Int} (h : Left l o s k) (hx : l[k]? = some x) (h6 : (tick s x).2 ≤ 5) (h5 : s.2 < 5) : Left l (o ++ [x]) (tick s x) (k + 1) := by
  unfold Left at h ⊢
  rw [drop_at hx] at h
  rw [h]
  simp only [stripF, if_neg (Nat.not_lt.2 h6), if_pos h5, Option.map_map]
  refine Prod.ext (by simp) ?_
  show Option.map _ _ = Option.map _ _
  congr 1
  funext p
  simp; omega

theorem Left.skip {l o : List Int} {s : Int × Nat} {k : Nat} {x : Int} (h : Left l o s k) (hx : l[k]? = some x) (h6 : (tick s x).2 ≤ 5) (h5 : ¬ s.2 < 5) : Left l o (tick s x) (k + 1) := by
  unfold Left at h ⊢
  rw [drop_at hx] at h
  rw [h]
  simp only [stripF, if_neg (Nat.not_lt.2 h6), if_neg h5, Option.map_map]
  refine Prod.ext rfl ?_
  show Option.map _ _ = Option.map _ _
  congr 1
  funext p
  simp; omega

theorem Left.done {l o : List Int} {s : Int × Nat} (h : Left l o s l.length) : stripL l = (o, if s.2 = 5 then some l.length else none) := by
  unfold Left at h
  rw [h]
  simp only [List.drop_length, stripF, List.append_nil]
  split <;> simp

set_option maxRecDepth 100000 in
set_option maxHeartbeats 2000000 in
theorem strip_any (l : List Int) (A : Option Addr) (c : Nat) (w : World) (h : Row .i64 w w.heap.size A l) (hm : l.length ≤ 100000) :
    Calls Try.prog 9 #[.slice A l.length c] w fun e w' => ∃ cap, e = .returned (.tuple #[.slice (some ⟨w.heap.size, 0, none⟩) (stripL l).1.length cap, .int .i64 (placeI (stripL l).2)]) ∧
      w'.ownsRow w.heap.size 3 1 (.slice (some ⟨w.heap.size, 0, none⟩) (stripL l).1.length cap) (stripL l).1.length ((stripL l).1.map (Value.int .i64)) ∧ Below w.heap.size w w' := by
  obtain ⟨i0, hi, hz0, hz1, hz2⟩ := info_parts Try.infoInt
  obtain ⟨R, hR⟩ : ∃ R, stripL l = R := ⟨_, rfl⟩
  have HR := Lib.hid hR
  rw [hR]
  clear hR
  go_enter Try.func9, Try.ntmps9
  go_wp2_with fail
  go_step3
  go_wp2_with (first
    | (at_make; refine wpList_make_own _ rfl _ _ 27 rfl w.heap.size 3 i0 (.int .i64 0) 1 Try.underlying27 hi hz0 hz1 _ _ _ l.length rfl rfl (by go_num) (by rw [hz2]; omega) (by unfold maxLen; omega) (Nat.le_refl _) ?_; intro w0 hown0 hgrow0)
    | (go_at_call 24; refine (follow_any _).mono ?_; rintro e w1 ⟨rfl, hrun, hB1, hz⟩))
  go_step3
  go_wp2_with fail
  have hg0 := (hown0.lt w.heap.size rfl).2
  have hB0 : Below w.heap.size w w1 := ((Below.refl _ _).grown hgrow0 (Nat.le_refl _) (fun k h => by cases h)).trans (hB1.mono hgrow0.size)
  have hown1 := own_to hown0 hB1
  clear hB1 hgrow0 hown0
  go_loopw [4, 6, 7, 17] (fun o b f i wr => ∃ (k m sm : Nat) (sv : Int) (os : List Int), k ≤ l.length ∧ i = .int .i64 k ∧ b = .int .i64 sm ∧ f = .int .i64 (-1) ∧ os.length = m ∧ m ≤ k ∧ sm ≤ 5 ∧ o = .slice (some ⟨w.heap.size, 0, none⟩) m l.length ∧
      wr.ownsRow w.heap.size 3 1 (.slice (some ⟨w.heap.size, 0, none⟩) m l.length) m (os.map (Value.int .i64)) ∧ Run2 wr w0.heap.size (sv, sm) ∧ Below w.heap.size w wr ∧ Left l os (sv, sm) k)
    (fun _ _ _ i _ => l.length - (intOf i).toNat)
  case atStart => exact ⟨0, 0, 0, 0, [], Nat.zero_le _, rfl, rfl, rfl, rfl, Nat.le_refl _, by omega, rfl, hown1, hrun, hB0, Left.start l⟩
  case round =>
    clear hown1 hrun hB0 hz
    obtain ⟨k, m, sm, sv, os, hk, rfl, rfl, rfl, hml, hmk, hs5, rfl, hown, hrun, hB, hL⟩ := hrel
    have hsz := hB.size
    by_cases hlt : k < l.length
    · obtain ⟨ad, x, rfl, hx, hc⟩ := (h.below hB).get_ hlt
      have hs62 : sm < 4611686018427387904 := by omega
      have hq1 := tick_le (sv, sm) x
      obtain ⟨q, hq⟩ : ∃ q, tick (sv, sm) x = (x, q) := ⟨_, rfl⟩
      rw [hq] at hq1
      simp only at hq1
      by_cases h6 : 5 < q
      · have hF := hL.fault hx (by rw [hq]; exact h6)
        rw [HR.out] at hF
        subst hF
        subst hml
        have Hq := Lib.hid hq
        have d6 : decide (5 < (q : Int)) = true := by simp; omega
        clear hq hL hx HR
        go_wp2_with (go_at_call 42; refine (follow1_at x q Hq.out hrun hs62).mono ?_; rintro e w3 ⟨rfl, hrun3, hO3⟩)
        go_ret2
        exact ⟨_, rfl, hO3.own hown (by omega) (by omega), hB.trans (hO3.below.mono (by omega))⟩
      · have d6 : decide (5 < (q : Int)) = false := by simp; omega
        by_cases h5 : sm < 5
        · have hK := hL.keep hx (by rw [hq]; simp only; omega) h5
          rw [hq] at hK
          have Hq := Lib.hid hq
          have HK := Lib.hid hK
          have Hml := Lib.hid hml
          have d5 : decide ((sm : Int) < 5) = true := by simp; omega
          clear hq hL hx hK hml
          go_wp2_with (first
            | (go_at_call 42; refine (follow1_at x q Hq.out hrun hs62).mono ?_; rintro e w3 ⟨rfl, hrun3, hO3⟩; have hown3 := hO3.own hown (by omega) (by omega))
            | (at_builtin; refine wpList_append_fits _ rfl _ _ 27 rfl w.heap.size 3 i0 1 Try.underlying27 hi hz1 w.heap.size m l.length _ rfl (hown3.alloc _) ⟨w3.heap.size, 0, none⟩ 1 1 [.int .i64 x] rfl rfl (cell_one_new _ _ _) (by simp [Value.oneCell']) (by omega) ?_; intro w4 hown4 hgrow4; have hrun4 := hrun3.fits hgrow4 (by omega) (by omega)))
          have hB3 := hB.trans (hO3.below.mono (by omega))
          have hBB := hB3.trans (below_fits hgrow4 hB3.size (Nat.le_refl _))
          exact ⟨⟨k + 1, m + 1, q, x, os ++ [x], by omega, by go_num, rfl, rfl, by rw [List.length_append, Hml.out]; rfl, by omega, by omega, rfl, by rw [List.map_append]; exact hown4, hrun4, hBB, HK.out⟩, by simp [intOf]; omega⟩
        · have hK := hL.skip hx (by rw [hq]; simp only; omega) h5
          rw [hq] at hK
          have Hq := Lib.hid hq
          have HK := Lib.hid hK
          have Hml := Lib.hid hml
          have d5 : decide ((sm : Int) < 5) = false := by simp; omega
          clear hq hL hx hK hml
          go_wp2_with (go_at_call 42; refine (follow1_at x q Hq.out hrun hs62).mono ?_; rintro e w3 ⟨rfl, hrun3, hO3⟩; have hown3 := hO3.own hown (by omega) (by omega))
          have hB3 := hB.trans (hO3.below.mono (by omega))
          exact ⟨⟨k + 1, m, q, x, os, by omega, by go_num, rfl, rfl, Hml.out, by omega, by omega, rfl, hown3, hrun3, hB3, HK.out⟩, by simp [intOf]; omega⟩
    · obtain rfl : k = l.length := by omega
      have hF := hL.done
      rw [HR.out] at hF
      clear HR hL
      by_cases h5 : sm = 5
      · subst h5
        rw [if_pos rfl] at hF
        subst hF
        subst hml
        go_wp2
        first | go_ret2 | (rw [Exit.noGoto_ret]; go_ret2)
        exact ⟨_, rfl, hown, hB⟩
      · have d5 : ((sm : Int) == 5) = false := by simp; omega
        rw [if_neg h5] at hF
        subst hF
        subst hml
        go_wp2
        first | go_ret2 | (rw [Exit.noGoto_ret]; go_ret2)
        exact ⟨_, rfl, hown, hB⟩

end Go.Proofs.Ytajabpjphobabaa
