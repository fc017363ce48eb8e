/-
  StuffTells: what any bits are stuffed, what any are stripped to, where one is wrong, and how long the longest run is, is as the document says.
-/
import Derived.Test.YtlbefdonpnignaaRefC3
namespace Go.Proofs.Ytlbefdonpnignaa
open Go.RowKit

set_option maxRecDepth 100000 in
set_option maxHeartbeats 2000000 in
theorem stuffTells_walk (a : List Int) (n : Nat) (hn : a.length = n) (A : Option Addr) (c : Nat) (w : World) (h : Row .i64 w w.heap.size A a) (hmx : n ≤ maxLen) :
    Calls Try.prog 3 #[.slice A n c] w fun e w' => e = .returned (.bool true) ∧ Below w.heap.size w w' := by
  have hN := Lib.hid hn
  clear hn
  go_enter Try.func3, Try.ntmps3
  go_wp2_with fail
  refine (head_any _).mono ?_
  rintro e w1 ⟨rfl, b1⟩
  have h1 := h.to b1
  clear h
  go_wp2_with fail
  refine (bits_at _ hN.out h1 hmx).mono ?_
  rintro e w2 ⟨Al, cl, m, rfl, hl, hm3, hcl, rl, b2⟩
  have t2 := below_then b1 b2
  obtain ⟨l, hlo⟩ : ∃ l, lowL a = l := ⟨_, rfl⟩
  have hr : rightB l = true := by rw [← hlo]; exact lowL_right a
  rw [hlo] at hl rl
  have Hl := Lib.hid hl
  have HR := Lib.hid hr
  clear hlo h1 b1 b2 hN hmx hr
  obtain ⟨⟨r, p⟩, hS⟩ : ∃ S, stripL l = S := ⟨_, rfl⟩
  have hrl : r.length ≤ m := by have := strip_len l (0, 0); rw [show stripF (0, 0) l = (r, p) from hS, hl] at this; exact this
  have HS := Lib.hid hS
  obtain ⟨k, hk⟩ : ∃ k, r.length = k := ⟨_, rfl⟩
  rw [hk] at hrl
  have Hk := Lib.hid hk
  obtain ⟨s, hs⟩ : ∃ s, stuffL l = s := ⟨_, rfl⟩
  have Hs := Lib.hid hs
  obtain ⟨z, hz⟩ : ∃ z, s.length = z := ⟨_, rfl⟩
  have hz9 : z ≤ 1000 := by have := stuffL_len l; rw [hs] at this; omega
  have Hz := Lib.hid hz
  obtain ⟨u, hu⟩ : ∃ u, runsL l = u := ⟨_, rfl⟩
  have Hu := Lib.hid hu
  obtain ⟨v, hv⟩ : ∃ v, placeI p = v := ⟨_, rfl⟩
  have Hv := Lib.hid hv
  clear hl hS hk hs hz hu hv
  go_wp2_with fail
  refine (strip_at _ Hl.out rl (by omega) HS.out Hk.out Hv.out).mono ?_
  rintro e w3 ⟨A3, c3, rfl, -, r3, b3⟩
  replace rl := rl.to b3
  have t3 := below_then t2 b3
  go_wp2_with fail
  refine (refStrip_at _ Hl.out rl (by omega) HS.out Hk.out Hv.out).mono ?_
  rintro e w4 ⟨A4, c4, rfl, r4, b4⟩
  replace rl := rl.to b4
  replace r3 := r3.to b4
  have t4 := below_then t3 b4
  go_wp2_with fail
  refine (stuff_at _ Hl.out rl HR.out (by omega) Hs.out Hz.out).mono ?_
  rintro e w5 ⟨A5, c5, rfl, -, r5, b5⟩
  replace rl := rl.to b5
  replace r3 := r3.to b5
  replace r4 := r4.to b5
  have t5 := below_then t4 b5
  go_wp2_with fail
  refine (refStuff_at _ Hl.out rl HR.out (by omega) Hs.out Hz.out).mono ?_
  rintro e w6 ⟨A6, c6, rfl, r6, b6⟩
  replace rl := rl.to b6
  replace r3 := r3.to b6
  replace r4 := r4.to b6
  replace r5 := r5.to b6
  have t6 := below_then t5 b6
  go_wp2_with fail
  refine (ints_at _ _ Hz.out Hz.out r5 r6 (by omega) (by omega) (same_yes _)).mono ?_
  rintro e w7 ⟨rfl, b7⟩
  replace rl := rl.to b7
  replace r3 := r3.to b7
  replace r4 := r4.to b7
  have t7 := below_then t6 b7
  go_wp2_with fail
  refine (ints_at _ _ Hk.out Hk.out r3 r4 (by omega) (by omega) (same_yes _)).mono ?_
  rintro e w8 ⟨rfl, b8⟩
  replace rl := rl.to b8
  have t8 := below_then t7 b8
  go_wp2_with fail
  refine (runs_at _ Hl.out rl (by omega) Hu.out).mono ?_
  rintro e w9 ⟨rfl, b9⟩
  replace rl := rl.to b9
  have t9 := below_then t8 b9
  go_wp2_with fail
  refine (refRuns_at _ Hl.out rl (by omega) Hu.out).mono ?_
  rintro e w10 ⟨rfl, b10⟩
  go_wp2_with fail
  go_ret
  exact ⟨rfl, below_then t9 b10⟩

end Go.Proofs.Ytlbefdonpnignaa
