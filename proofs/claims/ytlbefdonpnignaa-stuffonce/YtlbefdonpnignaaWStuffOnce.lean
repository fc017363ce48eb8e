/-
  StuffOnce: bits of which none is wrong are just what is stuffed of what they are stripped to.
-/
import Derived.Test.YtlbefdonpnignaaLaw3
namespace Go.Proofs.Ytlbefdonpnignaa
open Go.RowKit

set_option maxRecDepth 100000 in
set_option maxHeartbeats 2000000 in
theorem stuffOnce_walk (a : List Int) (n : Nat) (hn : a.length = n) (A : Option Addr) (c : Nat) (w : World) (h : Row .i64 w w.heap.size A a) (hmx : n ≤ maxLen) :
    Calls Try.prog 5 #[.slice A n c] w fun e w' => e = .returned (.bool true) ∧ Below w.heap.size w w' := by
  have hN := Lib.hid hn
  clear hn
  go_enter Try.func5, Try.ntmps5
  go_wp2_with fail
  refine (head_any _).mono ?_
  rintro e w1 ⟨rfl, b1⟩
  have h1 := h.to b1
  clear h
  go_wp2_with fail
  refine (bits_at _ hN.out h1 hmx).mono ?_
  rintro e w2 ⟨Al, cl, m, rfl, hl, hm3, hcl, rl, b2⟩
  have t2 := below_then b1 b2
  obtain ⟨l, hlo⟩ : ∃ l, lowL a = l := ⟨_, rfl⟩
  have hr : rightB l = true := by rw [← hlo]; exact lowL_right a
  rw [hlo] at hl rl
  have Hl := Lib.hid hl
  have HR := Lib.hid hr
  clear hlo h1 b1 b2 hN hmx hr
  obtain ⟨⟨r, p⟩, hS⟩ : ∃ S, stripL l = S := ⟨_, rfl⟩
  have hrr : rightB r = true := by have := strip_right l (0, 0) HR.out; rw [show stripF (0, 0) l = (r, p) from hS] at this; exact this
  have hrl : r.length ≤ m := by have := strip_len l (0, 0); rw [show stripF (0, 0) l = (r, p) from hS, hl] at this; exact this
  have HS := Lib.hid hS
  have HRR := Lib.hid hrr
  obtain ⟨k, hk⟩ : ∃ k, r.length = k := ⟨_, rfl⟩
  rw [hk] at hrl
  have Hk := Lib.hid hk
  obtain ⟨z, hz⟩ : ∃ z, (stuffL r).length = z := ⟨_, rfl⟩
  have hz1 : z ≤ 1000 := by have := stuffL_len r; omega
  have Hz := Lib.hid hz
  cases p with
  | none =>
    have hb : stuffL r = l := stuff_stripF l.length l (Nat.le_refl _) (0, 0) r HR.out (by simp) HS.out
    have HB := Lib.hid (show sameB (stuffL r) l = true by rw [hb]; exact same_yes _)
    clear hb hl hS hrr hk hz
    go_wp2_with fail
    refine (strip_at _ Hl.out rl (by omega) HS.out Hk.out (v := -1) rfl).mono ?_
    rintro e w3 ⟨A3, c3, rfl, -, r3, b3⟩
    go_wp2_with fail
    refine (stuff_at _ Hk.out r3 HRR.out (by omega) rfl Hz.out).mono ?_
    rintro e w4 ⟨A4, c4, rfl, -, r4, b4⟩
    have l4 := (rl.to b3).to b4
    go_wp2_with fail
    refine (ints_at _ _ Hz.out Hl.out r4 l4 (by omega) (by omega) HB.out).mono ?_
    rintro e w5 ⟨rfl, b5⟩
    go_wp2_with fail
    go_ret
    exact ⟨rfl, below_then (below_then (below_then t2 b3) b4) b5⟩
  | some q =>
    obtain ⟨p1, p2, p3, p4, p5⟩ := strip_place l (0, 0) q (by simp) (by rw [show stripF (0, 0) l = (r, some q) from HS.out])
    have p6 : 5 ≤ q := by
      have h1 := runOf_le (l.take q)
      rw [show (runOf (l.take q)).2 = 5 from p3, List.length_take] at h1
      omega
    have p2' : k ≤ q := by rw [← hk]; rw [show stripF (0, 0) l = (r, some q) from HS.out] at p2; exact p2
    have hb : stuffL r ≠ l := by
      intro e
      have h1 := strip_stuffF r (0, 0) (by simp)
      rw [show stuffF (0, 0) r = l from e, show stripF (0, 0) l = (r, some q) from HS.out] at h1
      cases h1
    have HB := Lib.hid (show sameB (stuffL r) l = false by simp [sameB, hb])
    rw [hl] at p1
    have d1 : ((q : Int) == -1) = false := by simp <;> omega
    have d2 : decide (5 ≤ (q : Int)) = true := by simp; omega
    have d3 : decide (q ≤ m) = true := by simp; omega
    have d4 : decide (k ≤ q) = true := by simp; omega
    clear hb hl hS hrr hk hz p3 p4 p5 p2
    go_wp2_with fail
    refine (strip_at _ Hl.out rl (by omega) HS.out Hk.out (v := (q : Int)) rfl).mono ?_
    rintro e w3 ⟨A3, c3, rfl, -, r3, b3⟩
    go_wp2_with fail
    refine (stuff_at _ Hk.out r3 HRR.out (by omega) rfl Hz.out).mono ?_
    rintro e w4 ⟨A4, c4, rfl, -, r4, b4⟩
    have l4 := (rl.to b3).to b4
    go_wp2_with fail
    refine (ints_at _ _ Hz.out Hl.out r4 l4 (by omega) (by omega) HB.out).mono ?_
    rintro e w5 ⟨rfl, b5⟩
    go_wp2_with fail
    go_ret
    exact ⟨rfl, below_then (below_then (below_then t2 b3) b4) b5⟩

end Go.Proofs.Ytlbefdonpnignaa
