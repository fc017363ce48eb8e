/-
  What is sent is read, bit by bit; what is read was sent: lists, no Go.
-/
import Derived.Test.YtmapkjjglhpamaaWRef2
namespace Go.Proofs.Ytmapkjjglhpamaa
open Go.RowKit

/-- A head, and the frame that it tells. -/
structure HeadOf (T : List Int) (f : Fr) : Prop where
  ok : ∀ more, readL (T ++ more) = .ok (f, T.length)
  cut : ∀ q, q < T.length → readL (T.take q) = .error 40
  right : rightB T = true
  pos : 0 < T.length
theorem headOf (x : Bool) (ID : Nat) (r : Bool) (L : Nat) (dl : List Int) (hID : idOk x ID) (hL : L ≤ 8) (hb : byteB dl) (hd : dl.length = if r then 0 else L) : HeadOf (headV x ID r L dl) ⟨x, ID, r, L, dl⟩ :=
  ⟨fun more => read_head x ID r L dl more hID hL hb hd, fun q hq => read_cut x ID r L dl hL hd q hq, headV_right _ _ _ _ _, by rw [headV_len]; cases x <;> simp [hn] <;> omega⟩

theorem fiveB_stuff (a : List Int) : fiveB (stuffL a) = false := by
  unfold fiveB
  rw [runOf_stuff]
  have := stuffS_le a (0, 0) (by simp)
  simp; omega

theorem take_pre {a b T S : List Int} (hab : a ++ b = T ++ S) (hl : a.length ≤ T.length) : a = T.take a.length := by
  have := congrArg (List.take a.length) hab
  rw [List.take_left, List.take_append_of_le_length hl] at this
  exact this
theorem app_pre {a b T S : List Int} (hab : a ++ b = T ++ S) (hl : T.length ≤ a.length) : a = T ++ a.drop T.length := by
  have := congrArg (List.take T.length) hab
  rw [List.take_append_of_le_length hl, List.take_left] at this
  have e := List.take_append_drop T.length a
  rw [this] at e
  exact e.symm
theorem bare_ne (T : List Int) : bareV T ≠ [] := by
  intro e
  have := bareV_len T
  rw [e] at this
  simp at this

section
variable {T : List Int} {f : Fr} (h : HeadOf T f)
include h
theorem bare_form {a b : List Int} (hab : a ++ b = bareV T) : formOk (readL a) = true := by
  by_cases hl : a.length < T.length
  · have e : a = T.take a.length := take_pre hab (Nat.le_of_lt hl)
    rw [e, h.cut _ hl]
    rfl
  · have e : a = T ++ a.drop T.length := app_pre hab (Nat.le_of_not_lt hl)
    rw [e, h.ok]
    rfl
theorem bare_whole {H a b : List Int} (hab : a ++ b = bareV T) (hH : fiveB H = false) : wholeB H a = decide (b = []) := by
  have hlen : a.length + b.length = T.length + 15 := by rw [← List.length_append, hab, bareV_len]
  by_cases hl : a.length < T.length
  · have e : a = T.take a.length := take_pre hab (Nat.le_of_lt hl)
    have hb : b ≠ [] := by rintro rfl; simp at hlen; omega
    unfold wholeB
    rw [show readL a = .error 40 by rw [e]; exact h.cut _ hl]
    simp [hdOf, hb]
  · have e : a = T ++ a.drop T.length := app_pre hab (Nat.le_of_not_lt hl)
    unfold wholeB
    rw [show readL a = .ok (f, T.length) by rw [e]; exact h.ok _]
    have hp := h.pos
    by_cases hb : b = []
    · subst hb
      have : a.length = T.length + 15 := by simpa using hlen
      simp [hdOf, hp, this, hH]
    · have hb1 : 0 < b.length := List.length_pos_iff.2 hb
      have : ¬ a.length = T.length + 15 := by omega
      simp [hdOf, this, hb]
theorem bare_sum : sumB (bareV T) = true := by
  unfold sumB
  rw [decide_eq_true_eq]
  unfold bareV
  rw [h.ok]
  show numOf ((T ++ sumV T).drop T.length) = (crc15 ((T ++ sumV T).take T.length)).toNat
  rw [List.drop_left, List.take_left]
  exact numOf_back (crc_lt T)
theorem bare_hd : (hdOf (readL (bareV T))).2 = f := by unfold bareV; rw [h.ok]; rfl
theorem bare_judged {H a b : List Int} (hab : a ++ b = bareV T) (hH : fiveB H = false) : judged H a = 0 := by
  unfold judged
  rw [bare_form h hab, bare_whole h hab hH]
  by_cases hb : b = []
  · subst hb
    rw [List.append_nil] at hab
    rw [hab, bare_sum h]
    simp
  · simp [hb]
theorem bare_judged5 {H a b : List Int} (hab : a ++ b = bareV T) (hH : fiveB H = true) : judged H a = 0 ∧ wholeB H a = false := by
  have : wholeB H a = false := by unfold wholeB; rw [hH]; simp
  refine ⟨?_, this⟩
  unfold judged
  rw [bare_form h hab, this]
  simp
end

theorem stuffL_snoc {a : List Int} {x : Int} (hq : (tick (stuffS (0, 0) a) x).2 ≠ 5) : stuffL (a ++ [x]) = stuffL a ++ [x] := by
  unfold stuffL
  rw [stuffF_append]
  simp [stuffF, hq]
theorem stuffL_snoc5 {a : List Int} {x : Int} (hq : (tick (stuffS (0, 0) a) x).2 = 5) : stuffL (a ++ [x]) = stuffL a ++ [x] ++ [1 - x] := by
  unfold stuffL
  rw [stuffF_append]
  simp [stuffF, hq]

section
variable {T : List Int} {f : Fr} (h : HeadOf T f) (l : List Int)
include h
theorem pass_one {a b : List Int} {x : Int} (hab : a ++ [x] ++ b = bareV T) (hq : (tick (stuffS (0, 0) a) x).2 ≠ 5) (Z : List Int) :
    rdS l (stuffL a) a (x :: Z) = if b = [] then rdT l (stuffL (bareV T)).length f 0 Z else rdS l (stuffL (a ++ [x])) (a ++ [x]) Z := by
  have h5 := fiveB_stuff a
  have hs := stuffL_snoc hq
  have hP : plainOf (stuffL a) a x = a ++ [x] := by unfold plainOf; rw [h5]; rfl
  have hj := bare_judged h (H := stuffL (a ++ [x])) hab (fiveB_stuff _)
  have hw := bare_whole h (H := stuffL (a ++ [x])) hab (fiveB_stuff _)
  have hv : stuffedF (stuffL a) a x = 0 := by unfold stuffedF; rw [if_neg (by rw [h5]; simp), hP, ← hs]; exact hj
  conv => lhs; simp only [rdS]
  rw [if_pos hv, hP, ← hs, hw]
  by_cases hb : b = []
  · subst hb
    rw [List.append_nil] at hab
    simp only [decide_true, if_true]
    rw [hab, bare_hd h, ← hab, hs, List.length_append]
    rfl
  · simp [hb]
theorem pass_five1 {a b : List Int} {x : Int} (hab : a ++ [x] ++ b = bareV T) (hq : (tick (stuffS (0, 0) a) x).2 = 5) (Z : List Int) :
    rdS l (stuffL a) a (x :: Z) = rdS l (stuffL a ++ [x]) (a ++ [x]) Z := by
  have h5 := fiveB_stuff a
  have hP : plainOf (stuffL a) a x = a ++ [x] := by unfold plainOf; rw [h5]; rfl
  have hf : fiveB (stuffL a ++ [x]) = true := by unfold fiveB; rw [runOf_snoc, runOf_stuff, hq]; rfl
  have ⟨hj, hw⟩ := bare_judged5 h hab hf
  have hv : stuffedF (stuffL a) a x = 0 := by unfold stuffedF; rw [if_neg (by rw [h5]; simp), hP]; exact hj
  conv => lhs; simp only [rdS]
  rw [if_pos hv, hP, hw]
  simp
theorem pass_five2 {a b : List Int} {x : Int} (hab : a ++ [x] ++ b = bareV T) (hq : (tick (stuffS (0, 0) a) x).2 = 5) (Z : List Int) :
    rdS l (stuffL a ++ [x]) (a ++ [x]) ((1 - x) :: Z) = if b = [] then rdT l (stuffL (bareV T)).length f 0 Z else rdS l (stuffL (a ++ [x])) (a ++ [x]) Z := by
  have hs := stuffL_snoc5 hq
  have hf : fiveB (stuffL a ++ [x]) = true := by unfold fiveB; rw [runOf_snoc, runOf_stuff, hq]; rfl
  have hr : (runOf (stuffL a ++ [x])).1 = x := by rw [runOf_snoc, tick_fst]
  have hP : plainOf (stuffL a ++ [x]) (a ++ [x]) (1 - x) = a ++ [x] := by unfold plainOf; rw [hf]; rfl
  have hj := bare_judged h (H := stuffL (a ++ [x])) hab (fiveB_stuff _)
  have hw := bare_whole h (H := stuffL (a ++ [x])) hab (fiveB_stuff _)
  have hv : stuffedF (stuffL a ++ [x]) (a ++ [x]) (1 - x) = 0 := by
    unfold stuffedF
    rw [if_neg (by rw [hr]; rintro ⟨_, e⟩; omega), hP, ← hs]; exact hj
  conv => lhs; simp only [rdS]
  rw [if_pos hv, hP, ← hs, hw]
  by_cases hb : b = []
  · subst hb
    rw [List.append_nil] at hab
    simp only [decide_true, if_true]
    have hl : (stuffL (bareV T)).length = (stuffL a ++ [x]).length + 1 := by rw [← hab, hs, List.length_append]; rfl
    rw [hab, bare_hd h, hl]
  · simp [hb]
/-- Along what is stuffed. -/
theorem pass : ∀ (b a : List Int), a ++ b = bareV T → b ≠ [] → ∀ (i : Nat) (Z : List Int), i ≤ (stuffF (stuffS (0, 0) a) b).length →
    (i < (stuffF (stuffS (0, 0) a) b).length ∧ ∃ P', rdS l (stuffL a) a ((stuffF (stuffS (0, 0) a) b).take i ++ Z) = rdS l (stuffL a ++ (stuffF (stuffS (0, 0) a) b).take i) P' Z) ∨
    (i = (stuffF (stuffS (0, 0) a) b).length ∧ rdS l (stuffL a) a ((stuffF (stuffS (0, 0) a) b).take i ++ Z) = rdT l (stuffL (bareV T)).length f 0 Z)
  | [], _, _, hne, _, _, _ => absurd rfl hne
  | x :: b, a, hab, _, i, Z, hi => by
    have hab' : a ++ [x] ++ b = bareV T := by rw [← hab]; simp
    by_cases hq : (tick (stuffS (0, 0) a) x).2 = 5
    · have hS : stuffS (0, 0) (a ++ [x]) = (1 - x, 1) := by rw [stuffS_append]; simp [stuffS, hq]
      have hF : stuffF (stuffS (0, 0) a) (x :: b) = x :: (1 - x) :: stuffF (stuffS (0, 0) (a ++ [x])) b := by rw [hS]; simp [stuffF, hq]
      have hs := stuffL_snoc5 hq
      rw [hF] at hi ⊢
      match i, hi with
      | 0, _ => left; exact ⟨by simp, a, by simp⟩
      | 1, _ =>
        left
        refine ⟨by simp, a ++ [x], ?_⟩
        simpa using pass_five1 h l hab' hq Z
      | i + 2, hi =>
        simp only [List.take_succ_cons, List.cons_append, List.length_cons] at hi ⊢
        rw [pass_five1 h l hab' hq, pass_five2 h l hab' hq]
        by_cases hb : b = []
        · subst hb
          simp [stuffF] at hi
          subst hi
          right
          simp [stuffF]
        · rw [if_neg hb]
          rcases pass b (a ++ [x]) hab' hb i Z (by omega) with ⟨h1, P', h2⟩ | ⟨h1, h2⟩
          · left; refine ⟨by omega, P', ?_⟩
            rw [h2, hs]; simp
          · right; exact ⟨by omega, h2⟩
    · have hS : stuffS (0, 0) (a ++ [x]) = tick (stuffS (0, 0) a) x := by rw [stuffS_append]; simp [stuffS, hq]
      have hF : stuffF (stuffS (0, 0) a) (x :: b) = x :: stuffF (stuffS (0, 0) (a ++ [x])) b := by rw [hS]; simp [stuffF, hq]
      have hs := stuffL_snoc hq
      rw [hF] at hi ⊢
      match i, hi with
      | 0, _ => left; exact ⟨by simp, a, by simp⟩
      | i + 1, hi =>
        simp only [List.take_succ_cons, List.cons_append, List.length_cons] at hi ⊢
        rw [pass_one h l hab' hq]
        by_cases hb : b = []
        · subst hb
          simp [stuffF] at hi
          subst hi
          right
          simp [stuffF]
        · rw [if_neg hb]
          rcases pass b (a ++ [x]) hab' hb i Z (by omega) with ⟨h1, P', h2⟩ | ⟨h1, h2⟩
          · left; refine ⟨by omega, P', ?_⟩
            rw [h2, hs]; simp
          · right; exact ⟨by omega, h2⟩
/-- The whole of what is stuffed. -/
theorem pass_all (Z : List Int) : rdS l [] [] (stuffL (bareV T) ++ Z) = rdT l (stuffL (bareV T)).length f 0 Z := by
  rcases pass h l (bareV T) [] rfl (bare_ne T) (stuffL (bareV T)).length Z (Nat.le_refl _) with ⟨h1, _⟩ | ⟨_, h2⟩
  · exact absurd h1 (Nat.lt_irrefl _)
  · have e : (stuffF (stuffS (0, 0) []) (bareV T)).take (stuffL (bareV T)).length = stuffL (bareV T) := List.take_length
    rw [e] at h2
    exact h2
theorem pass_cut (i : Nat) (hi : i < (stuffL (bareV T)).length) : rdS l [] [] ((stuffL (bareV T)).take i) = (Fr.none_, 1, (i : Int)) := by
  rcases pass h l (bareV T) [] rfl (bare_ne T) i [] (Nat.le_of_lt hi) with ⟨_, P', h2⟩ | ⟨h1, _⟩
  · have e : rdS l [] [] ((stuffL (bareV T)).take i ++ []) = rdS l ([] ++ (stuffL (bareV T)).take i) P' [] := h2
    rw [List.append_nil] at e
    rw [e]
    simp [rdS]; omega
  · exfalso
    have : i = (stuffL (bareV T)).length := h1
    omega
end

/-- The ten behind: all of them, fewer, one that is another one. -/
def tenV (k : Int) : List Int := [1, k, 1, 1, 1, 1, 1, 1, 1, 1]
theorem ten_all (l : List Int) (e : Nat) (f : Fr) (k : Int) (Z : List Int) : rdT l e f 0 (tenV k ++ Z) = if l.getD (e + 1) 0 = 0 then (f, 0, -1) else (f, 5, ((e + 1 : Nat) : Int)) := by
  simp [tenV, rdT, trailF]
theorem ten_cut (l : List Int) (e : Nat) (f : Fr) (k : Int) (j : Nat) (hj : j < 10) : rdT l e f 0 ((tenV k).take j) = (Fr.none_, 1, ((e + j : Nat) : Int)) := by
  have : j = 0 ∨ j = 1 ∨ j = 2 ∨ j = 3 ∨ j = 4 ∨ j = 5 ∨ j = 6 ∨ j = 7 ∨ j = 8 ∨ j = 9 := by omega
  rcases this with rfl | rfl | rfl | rfl | rfl | rfl | rfl | rfl | rfl | rfl <;> simp [tenV, rdT, trailF]
theorem ten_flip (l : List Int) (e : Nat) (f : Fr) (k : Int) (j : Nat) (hj : j < 10) (h1 : j ≠ 1) (Z : List Int) : rdT l e f 0 ((tenV k).set j 0 ++ Z) = (Fr.none_, 3, ((e + j : Nat) : Int)) := by
  have : j = 0 ∨ j = 2 ∨ j = 3 ∨ j = 4 ∨ j = 5 ∨ j = 6 ∨ j = 7 ∨ j = 8 ∨ j = 9 := by omega
  rcases this with rfl | rfl | rfl | rfl | rfl | rfl | rfl | rfl | rfl <;> simp [tenV, rdT, trailF]

end Go.Proofs.Ytmapkjjglhpamaa
