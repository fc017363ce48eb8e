/-
  Runs, stuffing and stripping as lists: no Go.
-/
import Derived.Test.YtmapkjjglhpamaaBase
namespace Go.Proofs.Ytmapkjjglhpamaa

/-- The current run (its bit, its length), one bit on. -/
def tick (s : Int × Nat) (x : Int) : Int × Nat := (x, if x = s.1 then s.2 + 1 else 1)
/-- The run that a row ends with. -/
def runOf (l : List Int) : Int × Nat := l.foldl tick (0, 0)
theorem runOf_snoc (l : List Int) (x : Int) : runOf (l ++ [x]) = tick (runOf l) x := by simp [runOf]
theorem tick_same (s : Int × Nat) : tick s s.1 = (s.1, s.2 + 1) := by simp [tick]
theorem tick_other {s : Int × Nat} {x : Int} (h : x ≠ s.1) : tick s x = (x, 1) := by simp [tick, h]
theorem tick_pos (s : Int × Nat) (x : Int) : 1 ≤ (tick s x).2 := by unfold tick; split <;> simp
theorem tick_le (s : Int × Nat) (x : Int) : (tick s x).2 ≤ s.2 + 1 := by unfold tick; split <;> simp
theorem tick_fst (s : Int × Nat) (x : Int) : (tick s x).1 = x := rfl
theorem tick_opp (s : Int × Nat) (x : Int) : tick (tick s x) (1 - x) = (1 - x, 1) := tick_other (by simp [tick]; omega)

/-- What is stuffed of a row, from a run on. -/
def stuffF : Int × Nat → List Int → List Int
  | _, [] => []
  | s, x :: l => if (tick s x).2 = 5 then x :: (1 - x) :: stuffF (1 - x, 1) l else x :: stuffF (tick s x) l
def stuffL (l : List Int) : List Int := stuffF (0, 0) l
/-- The run behind what is stuffed. -/
def stuffS : Int × Nat → List Int → Int × Nat
  | s, [] => s
  | s, x :: l => if (tick s x).2 = 5 then stuffS (1 - x, 1) l else stuffS (tick s x) l
theorem stuffF_append : ∀ (a b : List Int) (s : Int × Nat), stuffF s (a ++ b) = stuffF s a ++ stuffF (stuffS s a) b
  | [], b, s => by simp [stuffF, stuffS]
  | x :: a, b, s => by
    simp only [List.cons_append, stuffF, stuffS]
    split
    · simp [stuffF_append a b]
    · simp [stuffF_append a b]
theorem stuffS_append : ∀ (a b : List Int) (s : Int × Nat), stuffS s (a ++ b) = stuffS (stuffS s a) b
  | [], b, s => by simp [stuffS]
  | x :: a, b, s => by
    simp only [List.cons_append, stuffS]
    split <;> exact stuffS_append a b _
theorem stuffS_le : ∀ (l : List Int) (s : Int × Nat), s.2 ≤ 4 → (stuffS s l).2 ≤ 4
  | [], s, h => h
  | x :: l, s, h => by
    simp only [stuffS]
    have := tick_le s x
    split
    · exact stuffS_le l _ (by simp)
    · exact stuffS_le l _ (by omega)
/-- The run behind what is stuffed is the run that it ends with. -/
theorem stuffS_run : ∀ (l : List Int) (s : Int × Nat), (stuffF s l).foldl tick s = stuffS s l
  | [], s => rfl
  | x :: l, s => by
    simp only [stuffF, stuffS]
    split
    · rw [List.foldl_cons, List.foldl_cons, tick_opp]; exact stuffS_run l _
    · rw [List.foldl_cons]; exact stuffS_run l _
theorem runOf_stuff (l : List Int) : runOf (stuffL l) = stuffS (0, 0) l := stuffS_run l _

/-- What is stripped of a row, from a run on; and the place of the fault. -/
def stripF : Int × Nat → List Int → List Int × Option Nat
  | s, [] => ([], if s.2 = 5 then some 0 else none)
  | s, x :: l => if 5 < (tick s x).2 then ([], some 0) else ((if s.2 < 5 then x :: (stripF (tick s x) l).1 else (stripF (tick s x) l).1), (stripF (tick s x) l).2.map (· + 1))
def placeI : Option Nat → Int
  | some p => p
  | none => -1

/-- Stuffed and stripped. -/
theorem strip_stuffF : ∀ (l : List Int) (s : Int × Nat), s.2 ≤ 4 → stripF s (stuffF s l) = (l, none)
  | [], s, h => by simp [stuffF, stripF]; omega
  | x :: l, s, h => by
    have h1 := tick_le s x
    simp only [stuffF]
    by_cases h5 : (tick s x).2 = 5
    · rw [if_pos h5]
      simp only [stripF]
      rw [tick_opp, if_neg (by omega), if_pos (by omega), if_neg (by simp), if_neg (by omega), strip_stuffF l _ (by simp)]
      rfl
    · rw [if_neg h5]
      simp only [stripF]
      rw [if_neg (by omega), if_pos (by omega), strip_stuffF l _ (by omega)]
      rfl

/-- Stripped without a fault, and stuffed again. -/
theorem stuff_stripF : ∀ (n : Nat) (l : List Int), l.length ≤ n → ∀ (s : Int × Nat) (a : List Int), rightB l = true → s.2 ≤ 4 → stripF s l = (a, none) → stuffF s a = l
  | _, [], _, s, a, _, _, h => by simp [stripF] at h; obtain ⟨rfl, _⟩ := h; rfl
  | 0, x :: l, hn, _, _, _, _, _ => by simp at hn
  | n + 1, x :: l, hn, s, a, hr, hs, h => by
    have h1 := tick_le s x
    have hr1 : rightB [x] = true ∧ rightB l = true := by rw [show x :: l = [x] ++ l from rfl, rightB_append] at hr; simpa using hr
    simp only [stripF] at h
    rw [if_neg (by omega), if_pos (by omega)] at h
    simp only [Prod.mk.injEq, Option.map_eq_none_iff] at h
    obtain ⟨rfl, h2⟩ := h
    simp only [stuffF]
    by_cases h5 : (tick s x).2 = 5
    · rw [if_pos h5]
      cases l with
      | nil => simp [stripF, h5] at h2
      | cons y l =>
        have hr2 : rightB [y] = true ∧ rightB l = true := by have := hr1.2; rw [show y :: l = [y] ++ l from rfl, rightB_append] at this; simpa using this
        have hx : x = 0 ∨ x = 1 := rightB_at hr1.1 (k := 0) rfl
        have hy : y = 0 ∨ y = 1 := rightB_at hr2.1 (k := 0) rfl
        by_cases hxy : y = x
        · exfalso
          subst hxy
          have : tick (tick s y) y = (y, (tick s y).2 + 1) := tick_same (tick s y)
          simp [stripF, this, h5] at h2
        · have hxy' : y = 1 - x := by omega
          subst hxy'
          simp only [stripF, tick_opp] at h2 ⊢
          rw [if_neg (by simp)] at h2
          rw [if_neg (by simp), if_neg (by omega)]
          simp only [Option.map_eq_none_iff] at h2
          rw [stuff_stripF n l (by simp at hn ⊢; omega) (1 - x, 1) _ hr2.2 (by simp) (by rw [← h2])]
    · rw [if_neg h5]
      rw [stuff_stripF n l (by simpa using hn) (tick s x) _ hr1.2 (by omega) (by rw [← h2])]

/-- Beginnings. -/
theorem stuffF_take (l : List Int) (s : Int × Nat) (k : Nat) : stuffF s (l.take k) <+: stuffF s l := by
  conv => rhs; rw [← List.take_append_drop k l, stuffF_append]
  exact List.prefix_append _ _
theorem stripF_take : ∀ (l : List Int) (s : Int × Nat) (k : Nat), (stripF s (l.take k)).1 <+: (stripF s l).1
  | [], s, k => by simp
  | x :: l, s, 0 => by simp [stripF]
  | x :: l, s, k + 1 => by
    simp only [List.take_succ_cons, stripF]
    split
    · exact List.prefix_refl _
    · split
      · exact List.cons_prefix_cons.2 ⟨rfl, stripF_take l _ k⟩
      · exact stripF_take l _ k

/-- The longest run of a row, from a run on. -/
def runsF : Int × Nat → List Int → Nat
  | _, [] => 0
  | s, x :: l => max (tick s x).2 (runsF (tick s x) l)
def runsL (l : List Int) : Nat := runsF (0, 0) l
theorem runs_stuffF : ∀ (l : List Int) (s : Int × Nat), s.2 ≤ 4 → runsF s (stuffF s l) ≤ 5
  | [], s, h => by simp [stuffF, runsF]
  | x :: l, s, h => by
    have h1 := tick_le s x
    simp only [stuffF]
    split
    · simp only [runsF, tick_opp]
      have := runs_stuffF l (1 - x, 1) (by simp)
      omega
    · simp only [runsF]
      have := runs_stuffF l (tick s x) (by omega)
      omega
theorem stuffF_runs : ∀ (l : List Int) (s : Int × Nat), s.2 ≤ 4 → min 5 (runsF s l) ≤ runsF s (stuffF s l)
  | [], s, h => by simp [stuffF, runsF]
  | x :: l, s, h => by
    have h1 := tick_le s x
    simp only [stuffF]
    split
    · simp only [runsF]
      omega
    · simp only [runsF]
      have := stuffF_runs l (tick s x) (by omega)
      omega
/-- Where the longest run has six bits there is a fault ahead of the end; otherwise none, or one at the end. -/
theorem strip_runs : ∀ (l : List Int) (s : Int × Nat), s.2 ≤ 5 → (5 < runsF s l → ∃ p, (stripF s l).2 = some p ∧ p < l.length) ∧ (runsF s l ≤ 5 → (stripF s l).2 = none ∨ (stripF s l).2 = some l.length)
  | [], s, h => by
    constructor
    · intro h; simp [runsF] at h
    · intro _; simp only [stripF]; split <;> simp
  | x :: l, s, h => by
    simp only [stripF, runsF]
    by_cases h6 : 5 < (tick s x).2
    · rw [if_pos h6]
      exact ⟨fun _ => ⟨0, rfl, by simp⟩, fun h => by omega⟩
    · rw [if_neg h6]
      obtain ⟨i1, i2⟩ := strip_runs l (tick s x) (by omega)
      constructor
      · intro h
        obtain ⟨p, hp, hl⟩ := i1 (by omega)
        exact ⟨p + 1, by simp [hp], by simp; omega⟩
      · intro h
        rcases i2 (by omega) with e | e <;> simp [e]

/-- How much is put in. -/
theorem stuffF_len : ∀ (l : List Int) (s : Int × Nat), s.2 ≤ 4 → l.length ≤ (stuffF s l).length ∧ 4 * ((stuffF s l).length - l.length) ≤ s.2 + l.length - 1
  | [], s, h => by simp [stuffF]
  | x :: l, s, h => by
    have h1 := tick_le s x
    have h0 := tick_pos s x
    simp only [stuffF]
    split
    · have := stuffF_len l (1 - x, 1) (by simp)
      simp only [List.length_cons] at *
      omega
    · have := stuffF_len l (tick s x) (by omega)
      simp only [List.length_cons] at *
      omega
theorem stuffL_len (l : List Int) : l.length ≤ (stuffL l).length ∧ 4 * ((stuffL l).length - l.length) ≤ l.length - 1 := by
  have := stuffF_len l (0, 0) (by simp)
  simp only [Nat.zero_add] at this
  exact this

/-- The place of a fault. -/
theorem strip_place : ∀ (l : List Int) (s : Int × Nat) (p : Nat), s.2 ≤ 5 → (stripF s l).2 = some p →
    p ≤ l.length ∧ (stripF s l).1.length ≤ p ∧ ((l.take p).foldl tick s).2 = 5 ∧ (∀ x, l[p]? = some x → x = ((l.take p).foldl tick s).1) ∧ stripF s (l.take p) = ((stripF s l).1, some p)
  | [], s, p, h, hp => by
    simp only [stripF] at hp
    split at hp
    · rename_i h5
      cases hp
      simp [stripF, h5]
    · cases hp
  | x :: l, s, p, h, hp => by
    simp only [stripF] at hp ⊢
    by_cases h6 : 5 < (tick s x).2
    · rw [if_pos h6] at hp ⊢
      cases hp
      have h1 := tick_le s x
      have h5 : s.2 = 5 := by omega
      have hx : x = s.1 := by
        by_cases e : x = s.1
        · exact e
        · rw [tick_other e] at h6; simp at h6
      simp [stripF, h5, hx]
    · rw [if_neg h6] at hp ⊢
      obtain ⟨q, hq, rfl⟩ := Option.map_eq_some_iff.1 hp
      obtain ⟨a1, a2, a3, a4, a5⟩ := strip_place l (tick s x) q (by omega) hq
      refine ⟨by simp; omega, ?_, by simpa using a3, by simpa using a4, ?_⟩
      · split
        · simp; omega
        · simp only; omega
      · simp only [List.take_succ_cons, stripF, if_neg h6, a5, Option.map_some]
theorem strip_len : ∀ (l : List Int) (s : Int × Nat), (stripF s l).1.length ≤ l.length
  | [], s => by simp [stripF]
  | x :: l, s => by
    have := strip_len l (tick s x)
    simp only [stripF]
    split
    · simp
    · split
      · simp; omega
      · simp only [List.length_cons]; omega

/-- A run lies at a row's end. -/
theorem runOf_le (l : List Int) : (runOf l).2 ≤ l.length := by
  induction h : l.length generalizing l with
  | zero => obtain rfl := List.eq_nil_of_length_eq_zero h; simp [runOf]
  | succ n ih =>
    rcases snoc_cases l with rfl | ⟨l', x, rfl⟩
    · simp at h
    · have := ih l' (by simpa using h)
      have := tick_le (runOf l') x
      rw [runOf_snoc]; omega
theorem runOf_at (l : List Int) : ∀ j, l.length ≤ j + (runOf l).2 → j < l.length → l[j]? = some (runOf l).1 := by
  induction h : l.length generalizing l with
  | zero => intro j _ hj; omega
  | succ n ih =>
    rcases snoc_cases l with rfl | ⟨l', x, rfl⟩
    · simp at h
    · have hl : l'.length = n := by simpa using h
      intro j hj hlt
      rw [runOf_snoc] at hj ⊢
      rw [tick_fst]
      by_cases hjn : j = n
      · subst hjn; simp [← hl]
      · rw [List.getElem?_append_left (by omega)]
        by_cases e : x = (runOf l').1
        · have e2 : (tick (runOf l') x).2 = (runOf l').2 + 1 := by rw [e, tick_same]
          rw [e]
          exact ih l' hl j (by omega) (by omega)
        · have e2 : (tick (runOf l') x).2 = 1 := by rw [tick_other e]
          omega
/-- Five alike at the end: what the document's own answer asks. -/
def fiveB (l : List Int) : Bool := decide (5 ≤ (runOf l).2)
theorem fiveB_short {l : List Int} (h : l.length < 5) : fiveB l = false := by
  have := runOf_le l
  unfold fiveB; simp; omega
theorem runOf_last {l : List Int} (h : 0 < l.length) : l[l.length - 1]? = some (runOf l).1 := by
  rcases snoc_cases l with rfl | ⟨l', x, rfl⟩
  · simp at h
  · simp [runOf_snoc, tick_fst]
theorem fiveB_yes {l : List Int} (h5 : 5 ≤ l.length) (h : ∀ j, l.length - 5 ≤ j → j < l.length → l[j]? = some (runOf l).1) : fiveB l = true := by
  have key : ∀ (n : Nat) (l : List Int) (v : Int), n ≤ l.length → (∀ j, l.length - n ≤ j → j < l.length → l[j]? = some v) → n ≤ (runOf l).2 := by
    intro n
    induction n with
    | zero => intros; omega
    | succ n ih =>
      intro l v hn hv
      rcases snoc_cases l with rfl | ⟨l', x, rfl⟩
      · simp at hn
      · simp at hn hv
        have hx : x = v := by
          have := hv l'.length (by omega) (by omega)
          simpa using this
        subst hx
        have hv' : ∀ j, l'.length - n ≤ j → j < l'.length → l'[j]? = some x := by
          intro j h1 h2
          have := hv j (by omega) (by omega)
          rwa [List.getElem?_append_left h2] at this
        have := ih l' x (by omega) hv'
        rw [runOf_snoc]
        by_cases e : x = (runOf l').1
        · rw [e, tick_same]; simp; omega
        · rw [tick_other e]
          cases n with
          | zero => simp
          | succ m =>
            exfalso
            have h1 := hv' (l'.length - 1) (by omega) (by omega)
            rw [runOf_last (by omega)] at h1
            cases h1
            exact e rfl
  unfold fiveB
  simp only [decide_eq_true_eq]
  exact key 5 l _ h5 h
theorem fiveB_no {l : List Int} (h5 : 5 ≤ l.length) {j : Nat} (h1 : l.length - 5 ≤ j) (h2 : j < l.length) {x : Int} (hx : l[j]? = some x) (hne : x ≠ (runOf l).1) : fiveB l = false := by
  unfold fiveB
  simp only [decide_eq_false_iff_not]
  intro h
  have := runOf_at l j (by omega) h2
  rw [hx] at this
  cases this
  exact hne rfl

/-- The opposites. -/
def turned (l : List Int) : List Int := l.map (1 - ·)
def Opp (s t : Int × Nat) : Prop := s.2 = t.2 ∧ (s.2 = 0 ∨ t.1 = 1 - s.1)
theorem Opp.tick {s t : Int × Nat} (h : Opp s t) (x : Int) : Opp (tick s x) (tick t (1 - x)) := by
  obtain ⟨h1, h2⟩ := h
  refine ⟨?_, .inr rfl⟩
  rcases h2 with h2 | h2
  · have e : t.2 = 0 := by omega
    simp [Go.Proofs.Ytmapkjjglhpamaa.tick, h2, e]
  · unfold Go.Proofs.Ytmapkjjglhpamaa.tick
    simp only
    by_cases e : x = s.1
    · rw [if_pos e, if_pos (by omega)]; omega
    · rw [if_neg e, if_neg (by omega)]
theorem stuffF_turned : ∀ (l : List Int) (s t : Int × Nat), Opp s t → stuffF t (turned l) = turned (stuffF s l)
  | [], _, _, _ => rfl
  | x :: l, s, t, h => by
    have hk := h.tick x
    simp only [turned, List.map_cons, stuffF]
    rw [← hk.1]
    split
    · simp only [List.map_cons]
      rw [show stuffF (1 - (1 - x), 1) (l.map (1 - ·)) = turned (stuffF (1 - x, 1) l) from stuffF_turned l _ _ ⟨rfl, .inr rfl⟩]
      rfl
    · simp only [List.map_cons]
      rw [show stuffF (Go.Proofs.Ytmapkjjglhpamaa.tick t (1 - x)) (l.map (1 - ·)) = turned (stuffF (Go.Proofs.Ytmapkjjglhpamaa.tick s x) l) from stuffF_turned l _ _ hk]
      rfl
theorem stripF_turned : ∀ (l : List Int) (s t : Int × Nat), Opp s t → stripF t (turned l) = (turned (stripF s l).1, (stripF s l).2)
  | [], s, t, h => by simp [turned, stripF, h.1]
  | x :: l, s, t, h => by
    have hk := h.tick x
    have ih := stripF_turned l _ _ hk
    have e := h.1
    simp only [turned, List.map_cons, stripF] at ih ⊢
    rw [← hk.1, ih, ← e]
    split
    · rfl
    · split <;> rfl
theorem runsF_turned : ∀ (l : List Int) (s t : Int × Nat), Opp s t → runsF t (turned l) = runsF s l
  | [], _, _, _ => rfl
  | x :: l, s, t, h => by
    have hk := h.tick x
    have ih := runsF_turned l _ _ hk
    simp only [turned, List.map_cons, runsF] at ih ⊢
    rw [← hk.1, ih]

/-- The lengths of the runs, each at its end. -/
def endsF : Int × Nat → List Int → List Nat
  | _, [] => []
  | s, [x] => [(tick s x).2]
  | s, x :: y :: l => if y = x then endsF (tick s x) (y :: l) else (tick s x).2 :: endsF (tick s x) (y :: l)
theorem ends_runs : ∀ (l : List Int) (s : Int × Nat) (m : Nat), (endsF s l).foldl max m = max m (runsF s l)
  | [], s, m => by simp [endsF, runsF]
  | [x], s, m => by simp [endsF, runsF]
  | x :: y :: l, s, m => by
    have ih := ends_runs (y :: l) (tick s x)
    by_cases e : y = x
    · have hs : (tick s x).2 ≤ runsF (tick s x) (y :: l) := by
        simp only [runsF]
        have : (tick (tick s x) y).2 = (tick s x).2 + 1 := by rw [e]; simp [tick]
        omega
      rw [endsF, if_pos e, ih m]
      show _ = max m (max (tick s x).2 (runsF (tick s x) (y :: l)))
      omega
    · rw [endsF, if_neg e, List.foldl_cons, ih]
      show _ = max m (max (tick s x).2 (runsF (tick s x) (y :: l)))
      omega

/-- The worst row. -/
def worstAt (i : Nat) : Int := (((i - 1) / 4 + 1) % 2 : Nat)
def worstL (n : Nat) : List Int := (List.range n).map worstAt
theorem worst_len : ∀ (m k : Nat), 1 ≤ k → (stuffF (worstAt k, (k - 1) % 4 + 1) ((List.range' k m).map worstAt)).length + (k - 1) / 4 = m + (k + m - 1) / 4
  | 0, k, h => by simp [stuffF]
  | m + 1, k, h => by
    have ih := worst_len m (k + 1) (by omega)
    rw [List.range'_succ, List.map_cons]
    simp only [stuffF]
    have ht : tick (worstAt k, (k - 1) % 4 + 1) (worstAt k) = (worstAt k, (k - 1) % 4 + 1 + 1) := tick_same _
    rw [ht]
    by_cases h5 : (k - 1) % 4 + 1 + 1 = 5
    · have e : (1 - worstAt k, 1) = (worstAt (k + 1), (k + 1 - 1) % 4 + 1) := by
        apply Prod.ext
        · show 1 - worstAt k = worstAt (k + 1)
          unfold worstAt
          omega
        · show 1 = (k + 1 - 1) % 4 + 1
          omega
      rw [if_pos h5, e]
      simp only [List.length_cons]
      omega
    · have e : (worstAt k, (k - 1) % 4 + 1 + 1) = (worstAt (k + 1), (k + 1 - 1) % 4 + 1) := by
        apply Prod.ext
        · show worstAt k = worstAt (k + 1)
          unfold worstAt
          omega
        · show (k - 1) % 4 + 1 + 1 = (k + 1 - 1) % 4 + 1
          omega
      rw [if_neg h5, e]
      simp only [List.length_cons]
      omega
theorem worstL_len (n : Nat) (h : 1 ≤ n) : (stuffL (worstL n)).length = n + (n - 1) / 4 := by
  obtain ⟨m, rfl⟩ : ∃ m, n = m + 1 := ⟨n - 1, by omega⟩
  have e : worstL (m + 1) = 1 :: (List.range' 1 m).map worstAt := by
    unfold worstL
    rw [List.range_eq_range', List.range'_succ]
    rfl
  rw [e]
  have := worst_len m 1 (by omega)
  have w1 : worstAt 1 = 1 := rfl
  rw [w1] at this
  have ht : tick (0, 0) 1 = (1, 1) := rfl
  simp only [stuffL, stuffF, ht]
  rw [if_neg (by decide)]
  simp only [List.length_cons]
  simp at this
  omega

end Go.Proofs.Ytmapkjjglhpamaa
