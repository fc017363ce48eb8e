/-
  A head is what stands ahead of the data, and the data's bits: lists alone.
-/
import Derived.Test.YthjhccdpjgdblaaWFrameBack
import Derived.Test.YthjhccdpjgdblaaRef
namespace Go.Proofs.Ythjhccdpjgdblaa
open Go.RowKit

/-- What stands ahead of the count of bytes. -/
def preV (x : Bool) (ID : Nat) (r : Bool) : List Int := if x then [0] ++ (rankX ID r ++ [0, 0]) else [0] ++ (rankS ID r ++ [0])
theorem preV_len (x : Bool) (ID : Nat) (r : Bool) : (preV x ID r).length + 4 = hn x := by
  cases x <;> simp [preV, hn, rankS_len, rankX_len]
theorem headV_split (x : Bool) (ID : Nat) (r : Bool) (L : Nat) (dl : List Int) : headV x ID r L dl = preV x ID r ++ (bitRow L 4 4 ++ spreadL dl) := by
  cases x <;> simp [preV, headV]
theorem headV_front (x : Bool) (ID : Nat) (r : Bool) (L : Nat) (dl : List Int) {k : Nat} (hk : k + 4 = hn x) : (headV x ID r L dl).take k = preV x ID r := by
  rw [headV_split]
  exact List.take_left' (by have := preV_len x ID r; omega)
theorem headV_all (x : Bool) (ID : Nat) (r : Bool) (L : Nat) (dl : List Int) {k : Nat} (hk : k = hn x) : (headV x ID r L dl).take k = preV x ID r ++ bitRow L 4 4 := by
  rw [headV_split, ← List.append_assoc]
  exact List.take_left' (by have := preV_len x ID r; rw [List.length_append, bitRow_len]; omega)
theorem headV_data (x : Bool) (ID : Nat) (r : Bool) (L : Nat) (dl : List Int) {k : Nat} (hk : k = hn x) : (headV x ID r L dl).drop k = spreadL dl := by
  rw [headV_split, ← List.append_assoc]
  exact List.drop_left' (by have := preV_len x ID r; rw [List.length_append, bitRow_len]; omega)
theorem spreadL_app (a b : List Int) : spreadL (a ++ b) = spreadL a ++ spreadL b := by simp [spreadL]

theorem refSpread_ex (l : List Int) (n : Nat) (hn : l.length = n) (A : Option Addr) (c : Nat) (w : World) (h : Row .u8 w w.heap.size A l) (hb : byteB l) (hm : n * 64 ≤ 140737488355328) (m : Nat) (hm' : 8 * n = m) :
    Calls Try.prog 24 #[.slice A n c] w fun e w' => ∃ A' c', e = .returned (.slice A' m c') ∧ Row .i64 w' w'.heap.size A' (spreadL l) ∧ Below w.heap.size w w' := by
  subst hn hm'
  exact (refSpread_any l A c w h hb hm).mono fun _ _ ⟨A', c', h1, h2, h3⟩ => ⟨A', c', h1, Row.own h2, h3⟩
theorem sameBytes_q (a b : List Int) (n m : Nat) (hn : a.length = n) (hm : b.length = m) (A A' : Option Addr) (c c' : Nat) (w : World) (h : Row .u8 w w.heap.size A a) (h' : Row .u8 w w.heap.size A' b) (ha : byteB a) (hb : byteB b) (q : Bool) (hq : sameB a b = q) :
    Calls Try.prog 25 #[.slice A n c, .slice A' m c'] w fun e w' => e = .returned (.bool q) ∧ Below w.heap.size w w' := by
  subst hq
  refine (sameBytes_at a b n m hn hm A A' c c' _ _ w h h' ha hb).mono ?_
  rintro e w' ⟨rfl, rfl⟩
  exact ⟨rfl, Below.refl _ _⟩
theorem byteB_take {l : List Int} (h : byteB l) (k : Nat) : byteB (l.take k) := fun x hx => h x (List.mem_of_mem_take hx)

end Go.Proofs.Ythjhccdpjgdblaa
