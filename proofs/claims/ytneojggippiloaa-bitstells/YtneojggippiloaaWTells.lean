/-
  BitsTells: what bits answers is what the document's own functions answer.
-/
import Derived.Test.YtneojggippiloaaRef
namespace Go.Proofs.Ytneojggippiloaa
open Go.RowKit

/-- What Put says, and tells. -/
def putB (n m : Int) : Bool := decide (0 ≤ m) && (decide (m ≤ 32) && (decide (0 ≤ n) && decide (n < 2 ^ m.toNat)))
theorem putB_iff (n m : Int) : putB n m = true ↔ PutOk n m := by simp [putB, PutOk]
def putL (n m : Int) : List Int := if putB n m = true then bitRow n.toNat m.toNat m.toNat else []
def joinV (l : List Int) : List Int := if joinOk l = true then joinL l else []
def getW (l : List Int) : Int := if getOk l = true then ((numOf l : Nat) : Int) else 0

theorem put_case (n m : Int) : (∃ a b : Nat, n = a ∧ m = b ∧ b ≤ 32 ∧ a < 2 ^ b ∧ putB n m = true ∧ putL n m = bitRow a b b) ∨ (¬ PutOk n m ∧ putB n m = false ∧ putL n m = []) := by
  by_cases h : PutOk n m
  · left
    obtain ⟨a, rfl⟩ := Int.eq_ofNat_of_zero_le h.2.2.1
    obtain ⟨b, rfl⟩ := Int.eq_ofNat_of_zero_le h.1
    have hb : putB a b = true := (putB_iff _ _).2 h
    have h' := putOk_nat.1 h
    exact ⟨a, b, rfl, rfl, h'.1, h'.2, hb, by simp [putL, hb]⟩
  · right
    have hb : putB n m = false := by
      cases e : putB n m with
      | false => rfl
      | true => exact absurd ((putB_iff n m).1 e) h
    exact ⟨h, hb, by simp [putL, hb]⟩

theorem put_all (n m : Int) (w : World) : Calls Try.prog 11 #[.int .i64 n, .int .i64 m] w fun e W' =>
    ∃ A k c, e = .returned (.tuple #[.slice A k c, .bool (putB n m)]) ∧ (putL n m).length = k ∧ k ≤ 32 ∧ Row .i64 W' W'.heap.size A (putL n m) ∧ Below w.heap.size w W' := by
  rcases put_case n m with ⟨a, b, rfl, rfl, hb, ha, e1, e2⟩ | ⟨h, e1, e2⟩
  · rw [e1, e2]
    exact (put_yes_at a b a b rfl rfl hb ha w).mono fun e W' ⟨A, h1, h2, h3⟩ => ⟨A, b, b, h1, bitRow_len _ _ _, hb, h2, h3⟩
  · rw [e1, e2]
    exact (put_no n m h w).mono fun e W' ⟨h1, h2⟩ => ⟨none, 0, 0, h1, rfl, by omega, .inl rfl, by rw [← h2]; exact Below.refl _ _⟩
theorem refPut_all (n m : Int) (w : World) : Calls Try.prog 12 #[.int .i64 n, .int .i64 m] w fun e W' =>
    ∃ A k c, e = .returned (.tuple #[.slice A k c, .bool (putB n m)]) ∧ (putL n m).length = k ∧ k ≤ 32 ∧ Row .i64 W' W'.heap.size A (putL n m) ∧ Below w.heap.size w W' := by
  rcases put_case n m with ⟨a, b, rfl, rfl, hb, ha, e1, e2⟩ | ⟨h, e1, e2⟩
  · rw [e1, e2]
    exact (refPut_at a b a b rfl rfl hb ha w).mono fun e W' ⟨A, c, h1, h2, h3⟩ => ⟨A, b, c, h1, bitRow_len _ _ _, hb, h2, h3⟩
  · rw [e1, e2]
    exact (refPut_no n m h w).mono fun e W' ⟨h1, h2⟩ => ⟨none, 0, 0, h1, rfl, by omega, .inl rfl, by rw [← h2]; exact Below.refl _ _⟩

theorem get_all (l : List Int) (n : Nat) (hn : l.length = n) (A : Option Addr) (c B : Nat) (w : World) (h : Row .i64 w B A l) (hm : n ≤ maxLen) :
    Calls Try.prog 13 #[.slice A n c] w fun e w' => e = .returned (.tuple #[.int .i64 (getW l), .bool (getOk l)]) ∧ w = w' := by
  subst hn
  cases hg : getOk l with
  | true => rw [show getW l = ((numOf l : Nat) : Int) by simp [getW, hg]]; exact get_yes l A c B w h hg
  | false => rw [show getW l = 0 by simp [getW, hg]]; exact get_no l A c B w h hm hg
theorem refGet_all (l : List Int) (n : Nat) (hn : l.length = n) (A : Option Addr) (c B : Nat) (w : World) (h : Row .i64 w B A l) (hm : n ≤ maxLen) :
    Calls Try.prog 14 #[.slice A n c] w fun e w' => e = .returned (.tuple #[.int .i64 (getW l), .bool (getOk l)]) ∧ w = w' := by
  subst hn
  cases hg : getOk l with
  | true => rw [show getW l = ((numOf l : Nat) : Int) by simp [getW, hg]]; exact refGet_yes l A c B w h hg
  | false => rw [show getW l = 0 by simp [getW, hg]]; exact refGet_no l A c B w h hm hg

theorem joinV_byte (l : List Int) : byteB (joinV l) := by
  cases hg : joinOk l with
  | true =>
    have hr : rightB l = true := by simp only [joinOk, Bool.and_eq_true] at hg; exact hg.2
    rw [show joinV l = joinL l by simp [joinV, hg]]
    exact joinL_byte hr
  | false => rw [show joinV l = [] by simp [joinV, hg]]; intro x hx; simp at hx
theorem join_all (l : List Int) (n : Nat) (hn : l.length = n) (A : Option Addr) (c B : Nat) (w : World) (h : Row .i64 w B A l) (hB : B ≤ w.heap.size) (hm : n ≤ 2000) (hc : n ≤ c) :
    Calls Try.prog 15 #[.slice A n c] w fun e W' => ∃ A' k c', e = .returned (.tuple #[.slice A' k c', .bool (joinOk l)]) ∧ (joinV l).length = k ∧ Row .u8 W' W'.heap.size A' (joinV l) ∧ Below w.heap.size w W' := by
  cases hg : joinOk l with
  | true =>
    rw [show joinV l = joinL l by simp [joinV, hg]]
    exact (join_yes_at l n hn A c B w h hB (by omega) hc hg (n / 8) rfl).mono fun e W' ⟨A', h1, h2, h3⟩ => ⟨A', _, _, h1, by rw [joinL_len, hn], h2, h3⟩
  | false =>
    rw [show joinV l = [] by simp [joinV, hg]]
    exact (join_no_at l n hn A c B w h (by unfold maxLen; omega) hg).mono fun e W' ⟨h1, h2⟩ => ⟨none, 0, 0, h1, rfl, .inl rfl, by rw [← h2]; exact Below.refl _ _⟩
theorem refJoin_all (l : List Int) (n : Nat) (hn : l.length = n) (A : Option Addr) (c B : Nat) (w : World) (h : Row .i64 w B A l) (hB : B ≤ w.heap.size) (hm : n ≤ 2000) (hc : n ≤ c) :
    Calls Try.prog 16 #[.slice A n c] w fun e W' => ∃ A' k c', e = .returned (.tuple #[.slice A' k c', .bool (joinOk l)]) ∧ (joinV l).length = k ∧ Row .u8 W' W'.heap.size A' (joinV l) ∧ Below w.heap.size w W' := by
  subst hn
  cases hg : joinOk l with
  | true =>
    rw [show joinV l = joinL l by simp [joinV, hg]]
    exact (refJoin_yes l A c w (h.more hB) (by omega) hc hg).mono fun e W' ⟨A', c', h1, h2, h3⟩ => ⟨A', _, c', h1, by rw [joinL_len], Row.own h2, h3⟩
  | false =>
    rw [show joinV l = [] by simp [joinV, hg]]
    exact (refJoin_no l A c B w h (by unfold maxLen; omega) hg).mono fun e W' ⟨h1, h2⟩ => ⟨none, 0, 0, h1, rfl, .inl rfl, by rw [← h2]; exact Below.refl _ _⟩
theorem refSpread_at (l : List Int) (n : Nat) (hn : l.length = n) (A : Option Addr) (c B : Nat) (w : World) (h : Row .u8 w B A l) (hB : B ≤ w.heap.size) (hb : byteB l) (hm : n * 64 ≤ 140737488355328) (m : Nat) (hm' : 8 * n = m) :
    Calls Try.prog 22 #[.slice A n c] w fun e W' => ∃ A' c', e = .returned (.slice A' m c') ∧ Row .i64 W' W'.heap.size A' (spreadL l) ∧ Below w.heap.size w W' := by
  subst hn hm'
  exact (refSpread_any l A c w (h.more hB) hb hm).mono fun e W' ⟨A', c', h1, h2, h3⟩ => ⟨A', c', h1, Row.own h2, h3⟩
theorem refRight_at (l : List Int) (n : Nat) (hn : l.length = n) (A : Option Addr) (c B : Nat) (w : World) (h : Row .i64 w B A l) (hl : n ≤ maxLen) :
    Calls Try.prog 18 #[.slice A n c] w fun e w' => e = .returned (.bool (rightB l)) ∧ w = w' := by
  subst hn; exact refRight_any l A c B w h hl

set_option maxRecDepth 100000 in
set_option maxHeartbeats 1000000 in
theorem bitsTells_long (n nb : Nat) (x y : Int) (A A' : Option Addr) (c c' : Nat) (w : World) (hl : n ≤ maxLen) (hb : nb ≤ maxLen) (h : 2000 < n ∨ 500 < nb) :
    Calls Try.prog 3 #[.slice A n c, .int .i64 x, .int .i64 y, .slice A' nb c'] w fun e w' => e = .returned (.bool true) ∧ Below w.heap.size w w' := by
  unfold maxLen at hb hl
  by_cases h1 : 2000 < n
  · have d1 : decide (2000 < (n : Int)) = true := by simp; omega
    clear h
    go_enter Try.func3, Try.ntmps3
    go_wp2_with fail
    refine (head_any _).mono ?_
    rintro e w1 ⟨rfl, hB1⟩
    go_wp2_with fail
    go_ret
    exact ⟨rfl, hB1⟩
  · have d1 : decide (2000 < (n : Int)) = false := by simp; omega
    have d2 : decide (500 < (nb : Int)) = true := by simp; omega
    clear h
    go_enter Try.func3, Try.ntmps3
    go_wp2_with fail
    refine (head_any _).mono ?_
    rintro e w1 ⟨rfl, hB1⟩
    go_wp2_with fail
    go_ret
    exact ⟨rfl, hB1⟩

set_option maxRecDepth 100000 in
set_option maxHeartbeats 4000000 in
theorem bitsTells_walk (l : List Int) (n : Nat) (hn : l.length = n) (x y : Int) (b : List Int) (nb : Nat) (hnb : b.length = nb) (A A' : Option Addr) (c c' : Nat) (w : World)
    (h : Row .i64 w w.heap.size A l) (hb : Row .u8 w w.heap.size A' b) (hbb : byteB b) (hc : n ≤ c) (hm : n ≤ maxLen) (hmb : nb ≤ maxLen) :
    Calls Try.prog 3 #[.slice A n c, .int .i64 x, .int .i64 y, .slice A' nb c'] w fun e w' => e = .returned (.bool true) ∧ Below w.heap.size w w' := by
  by_cases hlong : 2000 < n ∨ 500 < nb
  · exact bitsTells_long n nb x y A A' c c' w hm hmb hlong
  have h2000 : n ≤ 2000 := by omega
  have h500 : nb ≤ 500 := by omega
  have d1 : decide (2000 < (n : Int)) = false := by simp; omega
  have d2 : decide (500 < (nb : Int)) = false := by simp; omega
  have Hn := Lib.hid hn
  have Hnb := Lib.hid hnb
  have Hbb := Lib.hid hbb
  clear hn hnb hbb hlong
  go_enter Try.func3, Try.ntmps3
  go_wp2_with fail
  refine (head_any _).mono ?_
  rintro e w1 ⟨rfl, hB1⟩
  go_wp2_with fail
  refine (put_all x y _).mono ?_
  rintro e w2 ⟨A2, k2, c2, rfl, hk2, hk2', hr2, hB2⟩
  have Hk2 := Lib.hid hk2
  clear hk2
  go_wp2_with fail
  refine (refPut_all x y _).mono ?_
  rintro e w3 ⟨A3, k3, c3, rfl, hk3, hk3', hr3, hB3⟩
  have Hk3 := Lib.hid hk3
  clear hk3
  have e13 := below_then hB1 (below_then hB2 hB3)
  have rl3 := h.to e13
  have rb3 := hb.to e13
  have r23 := hr2.to hB3
  generalize putB x y = pb
  go_wp2_with fail
  refine (get_all l n Hn.out _ _ _ _ rl3 hm).mono ?_
  rintro e w' ⟨rfl, rfl⟩
  go_wp2_with fail
  refine (refGet_all l n Hn.out _ _ _ _ rl3 hm).mono ?_
  rintro e w' ⟨rfl, rfl⟩
  generalize getOk l = gb
  generalize getW l = gv
  go_wp2_with fail
  refine (join_all l n Hn.out _ _ _ _ rl3 (Nat.le_refl _) h2000 hc).mono ?_
  rintro e w4 ⟨A4, k4, c4, rfl, hk4, hr4, hB4⟩
  have Hk4 := Lib.hid hk4
  clear hk4
  have rl4 := rl3.to hB4
  go_wp2_with fail
  refine (refJoin_all l n Hn.out _ _ _ _ rl4 (Nat.le_refl _) h2000 hc).mono ?_
  rintro e w5 ⟨A5, k5, c5, rfl, hk5, hr5, hB5⟩
  have Hk5 := Lib.hid hk5
  clear hk5
  generalize joinOk l = jb
  have e35 := below_then hB4 hB5
  have rl5 := rl3.to e35
  have rb5 := rb3.to e35
  have r25 := r23.to e35
  have r35 := hr3.to e35
  have r45 := hr4.to hB5
  go_wp2_with fail
  refine (right_at l n Hn.out _ _ _ _ rl5 hm).mono ?_
  rintro e w' ⟨rfl, rfl⟩
  go_wp2_with fail
  refine (refRight_at l n Hn.out _ _ _ _ rl5 hm).mono ?_
  rintro e w' ⟨rfl, rfl⟩
  generalize rightB l = rb
  go_wp2_with fail
  refine (same_at (putL x y) (putL x y) k2 k3 Hk2.out Hk3.out _ _ _ _ _ _ _ r25 r35 (by unfold maxLen; omega)).mono ?_
  rintro e w' ⟨rfl, q, rfl⟩
  rw [show sameB (putL x y) (putL x y) = true from by simp [sameB]]
  obtain ⟨w6, hw6⟩ : ∃ w6, w5.drewN q = w6 := ⟨_, rfl⟩
  rw [hw6]
  have e56 : Below w5.heap.size w5 w6 := by rw [← hw6]; exact below_drewN0 _ _
  clear hw6
  have r46 := r45.to e56
  have r56 := hr5.to e56
  have rb6 := rb5.to e56
  go_wp2_with fail
  refine (sameBytes_at (joinV l) (joinV l) k4 k5 Hk4.out Hk5.out _ _ _ _ _ _ _ r46 r56 (joinV_byte l) (joinV_byte l)).mono ?_
  rintro e w' ⟨rfl, rfl⟩
  rw [show sameB (joinV l) (joinV l) = true from by simp [sameB]]
  go_wp2_with fail
  refine (spread_at b nb Hnb.out _ _ _ _ rb6 (Nat.le_refl _) Hbb.out (by omega) (8 * nb) rfl).mono ?_
  rintro e w7 ⟨A7, rfl, hr7, hB7⟩
  have rb7 := rb6.to hB7
  go_wp2_with fail
  refine (refSpread_at b nb Hnb.out _ _ _ _ rb7 (Nat.le_refl _) Hbb.out (by omega) (8 * nb) rfl).mono ?_
  rintro e w8 ⟨A8, c8, rfl, hr8, hB8⟩
  have r78 := hr7.to hB8
  go_wp2_with fail
  refine (same_at (spreadL b) (spreadL b) (8 * nb) (8 * nb) (by rw [spreadL_len, Hnb.out]) (by rw [spreadL_len, Hnb.out]) _ _ _ _ _ _ _ r78 hr8 (by unfold maxLen; omega)).mono ?_
  rintro e w' ⟨rfl, q2, rfl⟩
  rw [show sameB (spreadL b) (spreadL b) = true from by simp [sameB]]
  go_wp2_with fail
  go_ret
  exact ⟨rfl, below_then e13 (below_then e35 (below_then e56 (below_then hB7 (below_then hB8 (below_drewN0 _ _)))))⟩

end Go.Proofs.Ytneojggippiloaa
