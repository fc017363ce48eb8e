/-
  The contracts once more, with lengths and numbers as they stand at a call; and the live question 'head'.
-/
import Derived.Test.YtneojggippiloaaSpread
import Derived.Test.YtneojggippiloaaJoin
import Derived.Deep.Draws
namespace Go.Proofs.Ytneojggippiloaa
open Go.RowKit

/-- A slice that is written out in the text. -/
theorem Row.lit (W : World) (κ : IntKind) (l : List Int) (t : TypeId) {cs : Array Value} (hcs : cs = (l.map (Value.int κ)).toArray) : Row κ (W.alloc (.cells cs t)) (W.heap.size + 1) (some ⟨W.heap.size, 0, none⟩) l := by
  right
  refine ⟨_, rfl, by simp, fun k x hx => ?_⟩
  have e : (⟨W.heap.size, 0, none⟩ : Addr).add k = ⟨W.heap.size, k, none⟩ := by unfold Addr.add; split <;> simp_all
  have hb := World.alloc_heap_new W (.cells cs t)
  subst hcs
  rw [e]
  simp only [World.cell?, hb]
  simp [hx]

theorem Row.drewN {κ : IntKind} {w : World} {B : Nat} {A : Option Addr} {l : List Int} (h : Row κ w B A l) (k : Nat) : Row κ (w.drewN k) B A l := h
theorem below_drewN' {B : Nat} {a w : World} (h : Below B a w) (n : Nat) : Below B a (w.drewN n) := ⟨h.os, h.tape, h.output, h.size, h.block⟩

theorem put_yes_at (n m : Int) (num many : Nat) (hn : n = num) (hm' : m = many) (hm : many ≤ 32) (hnum : num < 2 ^ many) (w : World) :
    Calls Try.prog 11 #[.int .i64 n, .int .i64 m] w fun e W' => ∃ A, e = .returned (.tuple #[.slice A many many, .bool true]) ∧ Row .i64 W' W'.heap.size A (bitRow num many many) ∧ Below w.heap.size w W' := by
  subst hn hm'
  exact (put_yes num many hm hnum w).mono fun e W' ⟨h1, h2, h3⟩ => ⟨_, h1, Row.own h2, h3⟩
theorem right_at (l : List Int) (n : Nat) (hn : l.length = n) (A : Option Addr) (c B : Nat) (w : World) (h : Row .i64 w B A l) (hl : n ≤ maxLen) :
    Calls Try.prog 17 #[.slice A n c] w fun e w' => e = .returned (.bool (rightB l)) ∧ w = w' := by
  subst hn; exact right_any l A c B w h hl
theorem get_yes_at (l : List Int) (n : Nat) (hn : l.length = n) (v : Int) (hv : ((numOf l : Nat) : Int) = v) (A : Option Addr) (c B : Nat) (w : World) (h : Row .i64 w B A l) (hg : getOk l = true) :
    Calls Try.prog 13 #[.slice A n c] w fun e w' => e = .returned (.tuple #[.int .i64 v, .bool true]) ∧ w = w' := by
  subst hn hv; exact get_yes l A c B w h hg
theorem get_no_at (l : List Int) (n : Nat) (hn : l.length = n) (A : Option Addr) (c B : Nat) (w : World) (h : Row .i64 w B A l) (hm : n ≤ maxLen) (hg : getOk l = false) :
    Calls Try.prog 13 #[.slice A n c] w fun e w' => e = .returned (.tuple #[.int .i64 0, .bool false]) ∧ w = w' := by
  subst hn; exact get_no l A c B w h hm hg
theorem join_yes_at (l : List Int) (n : Nat) (hn : l.length = n) (A : Option Addr) (c B : Nat) (w : World) (h : Row .i64 w B A l) (hB : B ≤ w.heap.size) (hm : n * 8 ≤ 140737488355328) (hc : n ≤ c) (hg : joinOk l = true) (m : Nat) (hm' : n / 8 = m) :
    Calls Try.prog 15 #[.slice A n c] w fun e w' => ∃ A', e = .returned (.tuple #[.slice A' m m, .bool true]) ∧
      Row .u8 w' w'.heap.size A' (joinL l) ∧ Below w.heap.size w w' := by
  subst hn hm'
  exact (join_yes l A c w (h.more hB) hm hc hg).mono fun e W' ⟨h1, h2, h3⟩ => ⟨_, h1, Row.own h2, h3⟩
theorem join_no_at (l : List Int) (n : Nat) (hn : l.length = n) (A : Option Addr) (c B : Nat) (w : World) (h : Row .i64 w B A l) (hm : n ≤ maxLen) (hg : joinOk l = false) :
    Calls Try.prog 15 #[.slice A n c] w fun e w' => e = .returned (.tuple #[.slice none 0 0, .bool false]) ∧ w = w' := by
  subst hn; exact join_no l A c B w h hm hg
theorem same_at (a b : List Int) (n m : Nat) (hn : a.length = n) (hm : b.length = m) (A A' : Option Addr) (c c' B B' : Nat) (w : World) (h : Row .i64 w B A a) (h' : Row .i64 w B' A' b) (hl : n ≤ maxLen) :
    Calls Try.prog 19 #[.slice A n c, .slice A' m c'] w fun e w' => e = .returned (.bool (sameB a b)) ∧ ∃ k, w' = w.drewN k := by
  subst hn hm; exact same_any a b A A' c c' B B' w h h' hl
theorem sameBytes_at (a b : List Int) (n m : Nat) (hn : a.length = n) (hm : b.length = m) (A A' : Option Addr) (c c' B B' : Nat) (w : World) (h : Row .u8 w B A a) (h' : Row .u8 w B' A' b) (ha : byteB a) (hb : byteB b) :
    Calls Try.prog 20 #[.slice A n c, .slice A' m c'] w fun e w' => e = .returned (.bool (sameB a b)) ∧ w = w' := by
  subst hn hm; exact sameBytes_any a b A A' c c' B B' w h h' ha hb
theorem spread_at (l : List Int) (n : Nat) (hn : l.length = n) (A : Option Addr) (c B : Nat) (w : World) (h : Row .u8 w B A l) (hB : B ≤ w.heap.size) (hb : byteB l) (hm : n * 64 ≤ 140737488355328) (m : Nat) (hm' : 8 * n = m) :
    Calls Try.prog 21 #[.slice A n c] w fun e W' => ∃ A', e = .returned (.slice A' m m) ∧ Row .i64 W' W'.heap.size A' (spreadL l) ∧ Below w.heap.size w W' := by
  subst hn hm'
  exact (spread_any l A c w (h.more hB) hb hm).mono fun e W' ⟨h1, h2, h3⟩ => ⟨_, h1, Row.own h2, h3⟩

theorem below_lit {w w' : World} {o : Obj} (h : Below (w.alloc o).heap.size (w.alloc o) w') : Below w.heap.size w w' := ((Below.refl _ w).alloc (Nat.le_refl _) o).trans (h.mono (by simp))
theorem below_lits {w w' : World} {o : Obj} (h : w.alloc o = w') : Below w.heap.size w w' := by subst h; exact (Below.refl _ w).alloc (Nat.le_refl _) o
/-- One behind the other. -/
theorem below_then {a b c : World} (h : Below a.heap.size a b) (k : Below b.heap.size b c) : Below a.heap.size a c := h.trans (k.mono h.size)
theorem below_drewN0 (a : World) (n : Nat) : Below a.heap.size a (a.drewN n) := below_drewN' (Below.refl _ _) n
theorem Row.to {κ : IntKind} {a b : World} {A : Option Addr} {l : List Int} (h : Row κ a a.heap.size A l) (k : Below a.heap.size a b) : Row κ b b.heap.size A l := (h.below k).more k.size

set_option maxRecDepth 100000 in
set_option maxHeartbeats 2000000 in
theorem head_any (w : World) : Calls Try.prog 10 #[] w fun e w' => e = .returned (.bool true) ∧ Below w.heap.size w w' := by
  go_enter Try.func10, Try.ntmps10
  go_wp2_with fail
  refine (put_yes_at 5 4 5 4 rfl rfl (by omega) (by omega) _).mono ?_
  rintro e w1 ⟨A1, rfl, hr1, hB1⟩
  go_wp2_with fail
  refine (put_no 16 4 (by simp [PutOk]) _).mono ?_
  rintro e w' ⟨rfl, rfl⟩
  have l1 := Row.lit w1 .i64 [1, 0, 1] 3 (cs := #[.int .i64 1, .int .i64 0, .int .i64 1]) rfl
  go_wp2_with fail
  refine (get_yes_at [1, 0, 1] 3 rfl 5 rfl _ _ _ _ l1 (by decide)).mono ?_
  rintro e w' ⟨rfl, rfl⟩
  clear l1
  obtain ⟨w2, hw2⟩ : ∃ w2, w1.alloc (.cells #[.int .i64 1, .int .i64 0, .int .i64 1] 3) = w2 := ⟨_, rfl⟩
  rw [hw2]
  have hBw2 := below_lits hw2
  clear hw2
  have l2 := Row.lit w2 .i64 [2] 3 (cs := #[.int .i64 2]) rfl
  go_wp2_with fail
  refine (get_no_at [2] 1 rfl _ _ _ _ l2 (by decide) (by decide)).mono ?_
  rintro e w' ⟨rfl, rfl⟩
  clear l2
  obtain ⟨w3, hw3⟩ : ∃ w3, w2.alloc (.cells #[.int .i64 2] 3) = w3 := ⟨_, rfl⟩
  rw [hw3]
  have hBw3 := below_lits hw3
  clear hw3
  have l3 := Row.lit w3 .i64 [0, 0, 0, 0, 0, 0, 1, 1] 3 (cs := #[.int .i64 0, .int .i64 0, .int .i64 0, .int .i64 0, .int .i64 0, .int .i64 0, .int .i64 1, .int .i64 1]) rfl
  go_wp2_with fail
  refine (join_yes_at [0, 0, 0, 0, 0, 0, 1, 1] 8 rfl _ _ _ _ l3 (by simp) (by decide) (by decide) (by decide) 1 rfl).mono ?_
  rintro e w4 ⟨A4, rfl, hr4, hB4⟩
  replace hB4 := below_lit hB4
  rw [show joinL [0, 0, 0, 0, 0, 0, 1, 1] = [3] from by decide] at hr4
  clear l3
  have l4 := Row.lit w4 .i64 [0] 3 (cs := #[.int .i64 0]) rfl
  go_wp2_with fail
  refine (join_no_at [0] 1 rfl _ _ _ _ l4 (by decide) (by decide)).mono ?_
  rintro e w' ⟨rfl, rfl⟩
  clear l4
  obtain ⟨w5, hw5⟩ : ∃ w5, w4.alloc (.cells #[.int .i64 0] 3) = w5 := ⟨_, rfl⟩
  rw [hw5]
  have hBw5 := below_lits hw5
  clear hw5
  have l5 := Row.lit w5 .i64 [0, 1, 0, 1] 3 (cs := #[.int .i64 0, .int .i64 1, .int .i64 0, .int .i64 1]) rfl
  rw [show bitRow 5 4 4 = [0, 1, 0, 1] from by decide] at hr1
  have hB15 := below_then hBw2 (below_then hBw3 (below_then hB4 hBw5))
  have r1 := hr1.to (below_then hB15 (below_lits (w := w5) (o := .cells #[.int .i64 0, .int .i64 1, .int .i64 0, .int .i64 1] 3) rfl))
  go_wp2_with fail
  refine (same_at [0, 1, 0, 1] [0, 1, 0, 1] 4 4 rfl rfl _ _ _ _ _ _ _ r1 l5 (by decide)).mono ?_
  rintro e w' ⟨rfl, q, rfl⟩
  rw [show sameB [0, 1, 0, 1] [0, 1, 0, 1] = true from by decide]
  obtain ⟨w6, hw6⟩ : ∃ w6, (w5.alloc (.cells #[.int .i64 0, .int .i64 1, .int .i64 0, .int .i64 1] 3)).drewN q = w6 := ⟨_, rfl⟩
  rw [hw6]
  have hB6 : Below w5.heap.size w5 w6 := by rw [← hw6]; exact below_lit (below_drewN0 _ _)
  clear hw6 l5 r1
  have hB46 := below_then hBw5 hB6
  have r4 := hr4.to (below_then hB46 (below_lits (w := w6) (o := .cells #[.int .u8 3] 5) rfl))
  have l6 := Row.lit w6 .u8 [3] 5 (cs := #[.int .u8 3]) rfl
  go_wp2_with fail
  refine (sameBytes_at [3] [3] 1 1 rfl rfl _ _ _ _ _ _ _ r4 l6 (by simp [byteB]) (by simp [byteB])).mono ?_
  rintro e w' ⟨rfl, rfl⟩
  rw [show sameB [3] [3] = true from by decide]
  clear l6 r4
  obtain ⟨w7, hw7⟩ : ∃ w7, w6.alloc (.cells #[.int .u8 3] 5) = w7 := ⟨_, rfl⟩
  rw [hw7]
  have hBw7 := below_lits hw7
  clear hw7
  have l7 := Row.lit w7 .i64 [0, 1] 3 (cs := #[.int .i64 0, .int .i64 1]) rfl
  go_wp2_with fail
  refine (right_at [0, 1] 2 rfl _ _ _ _ l7 (by decide)).mono ?_
  rintro e w' ⟨rfl, rfl⟩
  rw [show rightB [0, 1] = true from by decide]
  clear l7
  obtain ⟨w8, hw8⟩ : ∃ w8, w7.alloc (.cells #[.int .i64 0, .int .i64 1] 3) = w8 := ⟨_, rfl⟩
  rw [hw8]
  have hBw8 := below_lits hw8
  clear hw8
  have l8 := Row.lit w8 .i64 [-1] 3 (cs := #[.int .i64 (-1)]) rfl
  go_wp2_with fail
  refine (right_at [-1] 1 rfl _ _ _ _ l8 (by decide)).mono ?_
  rintro e w' ⟨rfl, rfl⟩
  rw [show rightB [-1] = false from by decide]
  clear l8
  obtain ⟨w9, hw9⟩ : ∃ w9, w8.alloc (.cells #[.int .i64 (-1)] 3) = w9 := ⟨_, rfl⟩
  rw [hw9]
  have hBw9 := below_lits hw9
  clear hw9
  have l9 := Row.lit w9 .u8 [129] 5 (cs := #[.int .u8 129]) rfl
  go_wp2_with fail
  refine (spread_at [129] 1 rfl _ _ _ _ l9 (by simp) (by simp [byteB]) (by decide) 8 rfl).mono ?_
  rintro e w10 ⟨A10, rfl, hr10, hB10⟩
  replace hB10 := below_lit hB10
  rw [show spreadL [129] = [1, 0, 0, 0, 0, 0, 0, 1] from by decide] at hr10
  clear l9
  have r10 := hr10.to (below_lits (w := w10) (o := .cells #[.int .i64 1, .int .i64 0, .int .i64 0, .int .i64 0, .int .i64 0, .int .i64 0, .int .i64 0, .int .i64 1] 3) rfl)
  have l10 := Row.lit w10 .i64 [1, 0, 0, 0, 0, 0, 0, 1] 3 (cs := #[.int .i64 1, .int .i64 0, .int .i64 0, .int .i64 0, .int .i64 0, .int .i64 0, .int .i64 0, .int .i64 1]) rfl
  go_wp2_with fail
  refine (same_at [1, 0, 0, 0, 0, 0, 0, 1] [1, 0, 0, 0, 0, 0, 0, 1] 8 8 rfl rfl _ _ _ _ _ _ _ r10 l10 (by decide)).mono ?_
  rintro e w' ⟨rfl, q2, rfl⟩
  rw [show sameB [1, 0, 0, 0, 0, 0, 0, 1] [1, 0, 0, 0, 0, 0, 0, 1] = true from by decide]
  clear l10 r10
  go_wp2_with fail
  go_ret
  refine ⟨rfl, ?_⟩
  exact below_then hB1 (below_then hB15 (below_then hB6 (below_then hBw7 (below_then hBw8 (below_then hBw9 (below_then hB10 (below_lit (below_drewN0 _ _))))))))

end Go.Proofs.Ytneojggippiloaa
