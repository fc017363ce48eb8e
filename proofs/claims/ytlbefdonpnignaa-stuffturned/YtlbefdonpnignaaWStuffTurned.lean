/-
  StuffTurned: stuffed opposites are the opposites of what is stuffed; so it is with what is stripped, with its fault, and with runs.
-/
import Derived.Test.YtlbefdonpnignaaLaw3
namespace Go.Proofs.Ytlbefdonpnignaa
open Go.RowKit

set_option maxRecDepth 100000 in
set_option maxHeartbeats 2000000 in
theorem stuffTurned_walk (a : List Int) (n : Nat) (hn : a.length = n) (A : Option Addr) (c : Nat) (w : World) (h : Row .i64 w w.heap.size A a) (hmx : n ≤ maxLen) :
    Calls Try.prog 10 #[.slice A n c] w fun e w' => e = .returned (.bool true) ∧ Below w.heap.size w w' := by
  have hN := Lib.hid hn
  clear hn
  go_enter Try.func10, Try.ntmps10
  go_wp2_with fail
  refine (head_any _).mono ?_
  rintro e w1 ⟨rfl, b1⟩
  have h1 := h.to b1
  clear h
  go_wp2_with fail
  refine (bits_at _ hN.out h1 hmx).mono ?_
  rintro e w2 ⟨Al, cl, m, rfl, hl, hm3, hcl, rl, b2⟩
  have t2 := below_then b1 b2
  obtain ⟨l, hlo⟩ : ∃ l, lowL a = l := ⟨_, rfl⟩
  have hr : rightB l = true := by rw [← hlo]; exact lowL_right a
  rw [hlo] at hl rl
  have Hl := Lib.hid hl
  have HR := Lib.hid hr
  clear hlo h1 b1 b2 hN hmx hr
  obtain ⟨⟨r, p⟩, hS⟩ : ∃ S, stripL l = S := ⟨_, rfl⟩
  have opp : Opp (0, 0) (0, 0) := ⟨rfl, .inl rfl⟩
  have hrr : rightB r = true := by have := strip_right l (0, 0) HR.out; rw [show stripF (0, 0) l = (r, p) from hS] at this; exact this
  have hrl : r.length ≤ m := by have := strip_len l (0, 0); rw [show stripF (0, 0) l = (r, p) from hS, hl] at this; exact this
  have HS := Lib.hid hS
  have HRR := Lib.hid hrr
  have HT := Lib.hid (turned_right HR.out)
  have HST := Lib.hid (show stripL (turned l) = (turned r, p) by have := stripF_turned l _ _ opp; rw [show stripF (0, 0) l = (r, p) from hS] at this; exact this)
  have hlt : (turned l).length = m := by rw [← hl]; simp [turned]
  have Hlt := Lib.hid hlt
  obtain ⟨k, hk⟩ : ∃ k, r.length = k := ⟨_, rfl⟩
  rw [hk] at hrl
  have Hk := Lib.hid hk
  have Hkt := Lib.hid (show (turned r).length = k by rw [← hk]; simp [turned])
  obtain ⟨s, hs⟩ : ∃ s, stuffL l = s := ⟨_, rfl⟩
  have HS1 := Lib.hid hs
  have HS2 := Lib.hid (show stuffL (turned l) = turned s by rw [← hs]; exact stuffF_turned l _ _ opp)
  have HSR := Lib.hid (show rightB s = true by rw [← hs]; exact stuff_right l (0, 0) HR.out)
  obtain ⟨z, hz⟩ : ∃ z, s.length = z := ⟨_, rfl⟩
  have hz1 : z ≤ 1000 := by have := stuffL_len l; rw [hs] at this; omega
  have Hz := Lib.hid hz
  have Hzt := Lib.hid (show (turned s).length = z by rw [← hz]; simp [turned])
  obtain ⟨u, hu⟩ : ∃ u, runsL l = u := ⟨_, rfl⟩
  have Hu := Lib.hid hu
  have Hut := Lib.hid (show runsL (turned l) = u by rw [← hu]; exact runsF_turned l _ _ opp)
  obtain ⟨v, hv⟩ : ∃ v, placeI p = v := ⟨_, rfl⟩
  have Hv := Lib.hid hv
  clear hl hS hrr hk hz hlt hs hu hv
  go_wp2_with fail
  refine (turned_at _ Hl.out rl HR.out (by omega)).mono ?_
  rintro e w3 ⟨Am, cm, rfl, -, rm, b3⟩
  replace rl := rl.to b3
  have t3 := below_then t2 b3
  go_wp2_with fail
  refine (strip_at _ Hl.out rl (by omega) HS.out Hk.out Hv.out).mono ?_
  rintro e w4 ⟨Aa, ca, rfl, -, ra, b4⟩
  replace rl := rl.to b4
  replace rm := rm.to b4
  have t4 := below_then t3 b4
  go_wp2_with fail
  refine (strip_at _ Hlt.out rm (by omega) HST.out Hkt.out Hv.out).mono ?_
  rintro e w5 ⟨Ac, cc, rfl, -, rc, b5⟩
  replace rl := rl.to b5
  replace rm := rm.to b5
  replace ra := ra.to b5
  have t5 := below_then t4 b5
  go_wp2_with fail
  refine (stuff_at _ Hlt.out rm HT.out (by omega) HS2.out Hzt.out).mono ?_
  rintro e w6 ⟨A6, c6, rfl, -, r6, b6⟩
  replace rl := rl.to b6
  replace rm := rm.to b6
  replace ra := ra.to b6
  replace rc := rc.to b6
  have t6 := below_then t5 b6
  go_wp2_with fail
  refine (stuff_at _ Hl.out rl HR.out (by omega) HS1.out Hz.out).mono ?_
  rintro e w7 ⟨A7, c7, rfl, -, r7, b7⟩
  replace rl := rl.to b7
  replace rm := rm.to b7
  replace ra := ra.to b7
  replace rc := rc.to b7
  replace r6 := r6.to b7
  have t7 := below_then t6 b7
  go_wp2_with fail
  refine (turned_at _ Hz.out r7 HSR.out (by omega)).mono ?_
  rintro e w8 ⟨A8, c8, rfl, -, r8, b8⟩
  replace rl := rl.to b8
  replace rm := rm.to b8
  replace ra := ra.to b8
  replace rc := rc.to b8
  replace r6 := r6.to b8
  have t8 := below_then t7 b8
  go_wp2_with fail
  refine (ints_at _ _ Hzt.out Hzt.out r6 r8 (by omega) (by omega) (same_yes _)).mono ?_
  rintro e w9 ⟨rfl, b9⟩
  replace rl := rl.to b9
  replace rm := rm.to b9
  replace ra := ra.to b9
  replace rc := rc.to b9
  have t9 := below_then t8 b9
  go_wp2_with fail
  refine (turned_at _ Hk.out ra HRR.out (by omega)).mono ?_
  rintro e w10 ⟨A10, c10, rfl, -, r10, b10⟩
  replace rl := rl.to b10
  replace rm := rm.to b10
  replace rc := rc.to b10
  have t10 := below_then t9 b10
  go_wp2_with fail
  refine (ints_at _ _ Hkt.out Hkt.out rc r10 (by omega) (by omega) (same_yes _)).mono ?_
  rintro e w11 ⟨rfl, b11⟩
  replace rl := rl.to b11
  replace rm := rm.to b11
  have t11 := below_then t10 b11
  go_wp2_with fail
  refine (runs_at _ Hl.out rl (by omega) Hu.out).mono ?_
  rintro e w12 ⟨rfl, b12⟩
  replace rm := rm.to b12
  have t12 := below_then t11 b12
  go_wp2_with fail
  refine (runs_at _ Hlt.out rm (by omega) Hut.out).mono ?_
  rintro e w13 ⟨rfl, b13⟩
  go_wp2_with fail
  go_ret
  exact ⟨rfl, below_then t12 b13⟩

end Go.Proofs.Ytlbefdonpnignaa
