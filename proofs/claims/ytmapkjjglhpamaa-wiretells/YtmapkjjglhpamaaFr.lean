/-
  Frames, their heads and ranks, and the frame of a row of bits, as lists: no Go.
-/
import Derived.Test.YtmapkjjglhpamaaBack
namespace Go.Proofs.Ytmapkjjglhpamaa
open Go.RowKit

/-- A frame. -/
structure Fr where
  ext : Bool
  id : Int
  rem : Bool
  len : Int
  data : List Int
deriving DecidableEq

def Fr.none_ : Fr := ⟨false, 0, false, 0, []⟩
def flag (b : Bool) : Int := if b then 1 else 0
def numAt (l : List Int) (a m : Nat) : Int := ((numOf ((l.drop a).take m) : Nat) : Int)

/-- What stands from the identifier on. -/
def namedL (l : List Int) : Except Int (Fr × Nat) :=
  if l.length < 14 then .error 40
  else if l.getD 13 0 = 0 then .ok (⟨false, numAt l 1 11, decide (l.getD 12 0 = 1), 0, []⟩, 14)
  else if l.getD 12 0 ≠ 1 then .error 42
  else if l.length < 34 then .error 40
  else if l.getD 33 0 ≠ 0 then .error 42
  else .ok (⟨true, numAt l 1 11 * 262144 + numAt l 14 18, decide (l.getD 32 0 = 1), 0, []⟩, 34)
/-- What stands behind it. -/
def tailL (l : List Int) (f : Fr) (k : Nat) : Except Int (Fr × Nat) :=
  if l.length < k + 1 then .error 40
  else if l.getD k 0 ≠ 0 then .error 42
  else if l.length < k + 5 then .error 40
  else if 8 < numAt l (k + 1) 4 then .error 41
  else if f.rem then .ok ({ f with len := numAt l (k + 1) 4 }, k + 5)
  else if l.length < k + 5 + 8 * (numAt l (k + 1) 4).toNat then .error 40
  else .ok ({ f with len := numAt l (k + 1) 4, data := joinL ((l.drop (k + 5)).take (8 * (numAt l (k + 1) 4).toNat)) }, k + 5 + 8 * (numAt l (k + 1) 4).toNat)
/-- The frame with whose head a row begins, and how many bits it has. -/
def readL (l : List Int) : Except Int (Fr × Nat) :=
  if l.length < 1 then .error 40
  else if l.getD 0 0 ≠ 0 then .error 42
  else match namedL l with
    | .error e => .error e
    | .ok (f, k) => tailL l f k

theorem getD_some {l : List Int} {k : Nat} (h : k < l.length) : l[k]? = some (l.getD k 0) := by
  rw [List.getElem?_eq_getElem h]; simp [List.getD, List.getElem?_eq_getElem h]
theorem getD_01 {l : List Int} (hr : rightB l = true) (k : Nat) : l.getD k 0 = 0 ∨ l.getD k 0 = 1 := by
  by_cases h : k < l.length
  · exact rightB_at hr (getD_some h)
  · left; simp [List.getD, List.getElem?_eq_none (Nat.le_of_not_lt h)]
theorem numAt_lt {l : List Int} (hr : rightB l = true) (a m : Nat) (h : a + m ≤ l.length) : 0 ≤ numAt l a m ∧ numAt l a m < ((2 ^ m : Nat) : Int) := by
  unfold numAt
  have := numOf_lt ((l.drop a).take m) (rightB_take (rightB_drop hr a) m)
  have e : ((l.drop a).take m).length = m := by simp; omega
  rw [e] at this
  exact ⟨by omega, by exact_mod_cast this⟩

end Go.Proofs.Ytmapkjjglhpamaa
