/-
  The contracts once more, with lengths and numbers as they stand at a call.
-/
import Derived.Test.YtmapkjjglhpamaaSpread
import Derived.Test.YtmapkjjglhpamaaJoin
import Derived.Deep.Draws
namespace Go.Proofs.Ytmapkjjglhpamaa
open Go.RowKit

theorem put_yes_at (n m : Int) (num many : Nat) (hn : n = num) (hm' : m = many) (hm : many ≤ 32) (hnum : num < 2 ^ many) (w : World) :
    Calls Try.prog 36 #[.int .i64 n, .int .i64 m] w fun e W' => ∃ A, e = .returned (.tuple #[.slice A many many, .bool true]) ∧ Row .i64 W' W'.heap.size A (bitRow num many many) ∧ Below w.heap.size w W' := by
  subst hn hm'
  exact (put_yes num many hm hnum w).mono fun e W' ⟨h1, h2, h3⟩ => ⟨_, h1, Row.own h2, h3⟩
theorem right_at (l : List Int) (n : Nat) (hn : l.length = n) (A : Option Addr) (c B : Nat) (w : World) (h : Row .i64 w B A l) (hl : n ≤ maxLen) :
    Calls Try.prog 83 #[.slice A n c] w fun e w' => e = .returned (.bool (rightB l)) ∧ w = w' := by
  subst hn; exact right_any l A c B w h hl
theorem get_yes_at (l : List Int) (n : Nat) (hn : l.length = n) (v : Int) (hv : ((numOf l : Nat) : Int) = v) (A : Option Addr) (c B : Nat) (w : World) (h : Row .i64 w B A l) (hg : getOk l = true) :
    Calls Try.prog 81 #[.slice A n c] w fun e w' => e = .returned (.tuple #[.int .i64 v, .bool true]) ∧ w = w' := by
  subst hn hv; exact get_yes l A c B w h hg
theorem get_no_at (l : List Int) (n : Nat) (hn : l.length = n) (A : Option Addr) (c B : Nat) (w : World) (h : Row .i64 w B A l) (hm : n ≤ maxLen) (hg : getOk l = false) :
    Calls Try.prog 81 #[.slice A n c] w fun e w' => e = .returned (.tuple #[.int .i64 0, .bool false]) ∧ w = w' := by
  subst hn; exact get_no l A c B w h hm hg
theorem join_yes_at (l : List Int) (n : Nat) (hn : l.length = n) (A : Option Addr) (c B : Nat) (w : World) (h : Row .i64 w B A l) (hB : B ≤ w.heap.size) (hm : n * 8 ≤ 140737488355328) (hc : n ≤ c) (hg : joinOk l = true) (m : Nat) (hm' : n / 8 = m) :
    Calls Try.prog 74 #[.slice A n c] w fun e w' => ∃ A', e = .returned (.tuple #[.slice A' m m, .bool true]) ∧
      Row .u8 w' w'.heap.size A' (joinL l) ∧ Below w.heap.size w w' := by
  subst hn hm'
  exact (join_yes l A c w (h.more hB) hm hc hg).mono fun e W' ⟨h1, h2, h3⟩ => ⟨_, h1, Row.own h2, h3⟩
theorem join_no_at (l : List Int) (n : Nat) (hn : l.length = n) (A : Option Addr) (c B : Nat) (w : World) (h : Row .i64 w B A l) (hm : n ≤ maxLen) (hg : joinOk l = false) :
    Calls Try.prog 74 #[.slice A n c] w fun e w' => e = .returned (.tuple #[.slice none 0 0, .bool false]) ∧ w = w' := by
  subst hn; exact join_no l A c B w h hm hg
theorem same_at (a b : List Int) (n m : Nat) (hn : a.length = n) (hm : b.length = m) (A A' : Option Addr) (c c' B B' : Nat) (w : World) (h : Row .i64 w B A a) (h' : Row .i64 w B' A' b) (hl : n ≤ maxLen) :
    Calls Try.prog 14 #[.slice A n c, .slice A' m c'] w fun e w' => e = .returned (.bool (sameB a b)) ∧ ∃ k, w' = w.drewN k := by
  subst hn hm; exact same_any a b A A' c c' B B' w h h' hl
theorem sameBytes_at (a b : List Int) (n m : Nat) (hn : a.length = n) (hm : b.length = m) (A A' : Option Addr) (c c' B B' : Nat) (w : World) (h : Row .u8 w B A a) (h' : Row .u8 w B' A' b) (ha : byteB a) (hb : byteB b) :
    Calls Try.prog 49 #[.slice A n c, .slice A' m c'] w fun e w' => e = .returned (.bool (sameB a b)) ∧ w = w' := by
  subst hn hm; exact sameBytes_any a b A A' c c' B B' w h h' ha hb
theorem spread_at (l : List Int) (n : Nat) (hn : l.length = n) (A : Option Addr) (c B : Nat) (w : World) (h : Row .u8 w B A l) (hB : B ≤ w.heap.size) (hb : byteB l) (hm : n * 64 ≤ 140737488355328) (m : Nat) (hm' : 8 * n = m) :
    Calls Try.prog 54 #[.slice A n c] w fun e W' => ∃ A', e = .returned (.slice A' m m) ∧ Row .i64 W' W'.heap.size A' (spreadL l) ∧ Below w.heap.size w W' := by
  subst hn hm'
  exact (spread_any l A c w (h.more hB) hb hm).mono fun e W' ⟨h1, h2, h3⟩ => ⟨_, h1, Row.own h2, h3⟩

end Go.Proofs.Ytmapkjjglhpamaa
