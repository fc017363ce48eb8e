/-
  What wire.Read hands back, as a list's function; heads that are known stay known: no Go.
-/
import Derived.Test.YtmapkjjglhpamaaRcv4
import Derived.Test.YtmapkjjglhpamaaFrMath
namespace Go.Proofs.Ytmapkjjglhpamaa
open Go.RowKit

/-- From the trailing bits on: the stuffed part had e bits, t of the ten are past. -/
def rdT (l : List Int) (e : Nat) (f : Fr) : Nat → List Int → Fr × Int × Int
  | t, [] => (Fr.none_, 1, ((e + t : Nat) : Int))
  | t, b :: r => if trailF t b = 0 then (if t + 1 = 10 then (if l.getD (e + 1) 0 = 0 then (f, 0, -1) else (f, 5, ((e + 1 : Nat) : Int))) else rdT l e f (t + 1) r) else (Fr.none_, 3, ((e + t : Nat) : Int))
/-- From a bit of the stuffed part on: H was heard, P without the inserted bits. -/
def rdS (l : List Int) : List Int → List Int → List Int → Fr × Int × Int
  | H, _, [] => (Fr.none_, 1, (H.length : Int))
  | H, P, b :: r => if stuffedF H P b = 0 then (if wholeB (H ++ [b]) (plainOf H P b) then rdT l (H.length + 1) (hdOf (readL (plainOf H P b))).2 0 r else rdS l (H ++ [b]) (plainOf H P b) r) else (Fr.none_, stuffedF H P b, (H.length : Int))
def wireRd (l : List Int) : Fr × Int × Int := rdS l [] [] l

theorem read_more {P : List Int} (hr : rightB P = true) {f : Fr} {k : Nat} (h : readL P = .ok (f, k)) (more : List Int) : readL (P ++ more) = .ok (f, k) := by
  obtain ⟨ID, L, hf, hID, hL, hd, hb, hk, hh, hn'⟩ := read_back hr h
  have e : P ++ more = headV f.ext ID f.rem L f.data ++ (P.drop k ++ more) := by rw [hh, ← List.append_assoc, List.take_append_drop]
  rw [e, read_head _ _ _ _ _ _ hID hL hb hd, hh]
  have : (P.take k).length = k := by simp; omega
  rw [this, ← hf]
theorem read_pos {P : List Int} (hr : rightB P = true) {f : Fr} {k : Nat} (h : readL P = .ok (f, k)) : 19 ≤ k ∧ k ≤ P.length := by
  obtain ⟨ID, L, hf, hID, hL, hd, hb, hk, hh, hn'⟩ := read_back hr h
  refine ⟨?_, hk⟩
  rw [hn']
  have : 19 ≤ hn f.ext := by cases f.ext <;> decide
  omega
theorem hd_le {P : List Int} (hr : rightB P = true) : (hdOf (readL P)).1 ≤ P.length := by
  cases h : readL P with
  | error e => simp [hdOf]
  | ok p => obtain ⟨f, k⟩ := p; exact (read_pos hr h).2
theorem plain_right {H P : List Int} {b : Int} (hr : rightB P = true) (hb : b = 0 ∨ b = 1) : rightB (plainOf H P b) = true := by
  unfold plainOf
  split
  · exact hr
  · rw [rightB_snoc, hr]; simpa using hb
theorem plain_len (H P : List Int) (b : Int) : (plainOf H P b).length ≤ P.length + 1 := by
  unfold plainOf; split <;> simp
theorem known_next {H P : List Int} {b : Int} (hr : rightB P = true) :
    (0 < (hdOf (readL P)).1 ∧ readL (plainOf H P b) = .ok ((hdOf (readL P)).2, (hdOf (readL P)).1)) ∨ ((hdOf (readL P)).1 = 0 ∧ (hdOf (readL P)).2 = Fr.none_) := by
  cases h : readL P with
  | error e => exact .inr ⟨rfl, rfl⟩
  | ok p =>
    obtain ⟨f, k⟩ := p
    left
    refine ⟨?_, ?_⟩
    · have := (read_pos hr h).1; simp only [hdOf]; omega
    · unfold plainOf
      split
      · exact h
      · exact read_more hr h [b]

section
variable {l P : List Int} {k : Nat} {x : Int} {e t : Nat} {f : Fr}
theorem take_len {l : List Int} {k : Nat} {x : Int} (hx : l[k]? = some x) : (l.take k).length = k := by
  have := (List.getElem?_eq_some_iff.1 hx).1
  simp; omega
theorem S_fault (h : wireRd l = rdS l (l.take k) P (l.drop k)) (hx : l[k]? = some x) {v : Int} (hv : stuffedF (l.take k) P x = v) (h0 : v ≠ 0) : wireRd l = (Fr.none_, v, (k : Int)) := by
  rw [h, drop_at hx]
  simp only [rdS]
  rw [hv, if_neg h0, take_len hx]
theorem S_whole (h : wireRd l = rdS l (l.take k) P (l.drop k)) (hx : l[k]? = some x) (hv : stuffedF (l.take k) P x = 0) (hw : wholeB (l.take (k + 1)) (plainOf (l.take k) P x) = true) : wireRd l = rdT l (k + 1) (hdOf (readL (plainOf (l.take k) P x))).2 0 (l.drop (k + 1)) := by
  rw [h, drop_at hx]
  simp only [rdS]
  rw [if_pos hv, ← take_snoc hx, if_pos hw, take_len hx]
theorem S_go (h : wireRd l = rdS l (l.take k) P (l.drop k)) (hx : l[k]? = some x) (hv : stuffedF (l.take k) P x = 0) (hw : wholeB (l.take (k + 1)) (plainOf (l.take k) P x) = false) : wireRd l = rdS l (l.take (k + 1)) (plainOf (l.take k) P x) (l.drop (k + 1)) := by
  rw [h, drop_at hx]
  conv => lhs; simp only [rdS]
  rw [if_pos hv, ← take_snoc hx, if_neg (by rw [hw]; simp)]
theorem S_short (h : wireRd l = rdS l (l.take k) P (l.drop k)) (hk : k = l.length) : wireRd l = (Fr.none_, 1, (k : Int)) := by
  subst hk
  rw [h]; simp [rdS]
theorem T_fault (h : wireRd l = rdT l e f t (l.drop (e + t))) (hx : l[e + t]? = some x) (hv : trailF t x = 3) : wireRd l = (Fr.none_, 3, ((e + t : Nat) : Int)) := by
  rw [h, drop_at hx]
  simp only [rdT]
  rw [hv, if_neg (by decide)]
theorem T_go (h : wireRd l = rdT l e f t (l.drop (e + t))) (hx : l[e + t]? = some x) (hv : trailF t x = 0) (ht : t + 1 < 10) : wireRd l = rdT l e f (t + 1) (l.drop (e + (t + 1))) := by
  rw [h, drop_at hx]
  conv => lhs; simp only [rdT]
  rw [if_pos hv, if_neg (by omega), ← Nat.add_assoc]
theorem T_end (h : wireRd l = rdT l e f t (l.drop (e + t))) (hx : l[e + t]? = some x) (hv : trailF t x = 0) (ht : t + 1 = 10) : wireRd l = if l.getD (e + 1) 0 = 0 then (f, 0, -1) else (f, 5, ((e + 1 : Nat) : Int)) := by
  rw [h, drop_at hx]
  simp only [rdT]
  rw [if_pos hv, if_pos ht]
theorem T_short (h : wireRd l = rdT l e f t (l.drop (e + t))) (hk : e + t = l.length) : wireRd l = (Fr.none_, 1, ((e + t : Nat) : Int)) := by
  rw [h, hk]; simp [rdT]; omega
end

end Go.Proofs.Ytmapkjjglhpamaa
