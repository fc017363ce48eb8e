/-
  StuffParts: what is stuffed of a row's beginning is the beginning of what is stuffed of the row; what is stripped of a beginning that of what is stripped, up to the first fault.
-/
import Derived.Test.YtlbefdonpnignaaLaw3
namespace Go.Proofs.Ytlbefdonpnignaa
open Go.RowKit

set_option maxRecDepth 100000 in
set_option maxHeartbeats 2000000 in
theorem stuffParts_walk (a : List Int) (n : Nat) (hn : a.length = n) (at_ : Nat) (hat : at_ < 65536) (A : Option Addr) (c : Nat) (w : World) (h : Row .i64 w w.heap.size A a) (hmx : n ≤ maxLen) :
    Calls Try.prog 9 #[.slice A n c, .int .u16 at_] w fun e w' => e = .returned (.bool true) ∧ Below w.heap.size w w' := by
  have hN := Lib.hid hn
  clear hn
  go_enter Try.func9, Try.ntmps9
  go_wp2_with fail
  refine (head_any _).mono ?_
  rintro e w1 ⟨rfl, b1⟩
  have h1 := h.to b1
  clear h
  go_wp2_with fail
  refine (bits_at _ hN.out h1 hmx).mono ?_
  rintro e w2 ⟨Al, cl, m, rfl, hl, hm3, hcl, rl, b2⟩
  have t2 := below_then b1 b2
  obtain ⟨l, hlo⟩ : ∃ l, lowL a = l := ⟨_, rfl⟩
  have hr : rightB l = true := by rw [← hlo]; exact lowL_right a
  rw [hlo] at hl rl
  have Hl := Lib.hid hl
  have HR := Lib.hid hr
  clear hlo h1 b1 b2 hN hmx hr
  obtain ⟨k, hk⟩ : ∃ k, at_ % (m + 1) = k := ⟨_, rfl⟩
  have hkm : k ≤ m := by have := Nat.mod_lt at_ (show 0 < m + 1 by omega); omega
  have hkc : k ≤ cl := by omega
  have hkI : (at_ : Int) % ((m : Int) + 1) = (k : Int) := by rw [← hk]; push_cast; rfl
  clear hk
  obtain ⟨lk, hlk⟩ : ∃ lk, l.take k = lk := ⟨_, rfl⟩
  have hlkl : lk.length = k := by rw [← hlk, List.length_take]; omega
  have HRK := Lib.hid (show rightB lk = true by rw [← hlk]; exact rightB_take HR.out k)
  have rk : Row .i64 w2 w2.heap.size Al lk := by
    have := rl.sub_ 0 k (by omega) (by omega) (A' := Al) (fun _ => by cases Al <;> rfl)
    rwa [List.drop_zero, Nat.sub_zero, hlk] at this
  obtain ⟨s, hs⟩ : ∃ s, stuffL l = s := ⟨_, rfl⟩
  obtain ⟨t, ht⟩ : ∃ t, stuffL lk = t := ⟨_, rfl⟩
  obtain ⟨z, hz⟩ : ∃ z, s.length = z := ⟨_, rfl⟩
  obtain ⟨y, hy⟩ : ∃ y, t.length = y := ⟨_, rfl⟩
  have hz9 : z ≤ 1000 := by have := stuffL_len l; rw [hs] at this; omega
  have hts : t <+: s := by rw [← hs, ← ht, ← hlk]; exact stuffF_take l (0, 0) k
  have hyz : y ≤ z := by rw [← hy, ← hz]; exact hts.length_le
  have Hts := Lib.hid (show s.take y = t by rw [← hy]; exact (List.prefix_iff_eq_take.1 hts).symm)
  obtain ⟨⟨ra, p⟩, hS⟩ : ∃ S, stripL l = S := ⟨_, rfl⟩
  obtain ⟨⟨rb, q⟩, hT⟩ : ∃ S, stripL lk = S := ⟨_, rfl⟩
  obtain ⟨x, hx⟩ : ∃ x, ra.length = x := ⟨_, rfl⟩
  obtain ⟨u, hu⟩ : ∃ u, rb.length = u := ⟨_, rfl⟩
  have hx9 : x ≤ m := by have := strip_len l (0, 0); rw [show stripF (0, 0) l = (ra, p) from hS] at this; simp only at this; omega
  have hba : rb <+: ra := by
    have := stripF_take l (0, 0) k
    rw [hlk, show stripF (0, 0) l = (ra, p) from hS, show stripF (0, 0) lk = (rb, q) from hT] at this
    exact this
  have hux : u ≤ x := by rw [← hu, ← hx]; exact hba.length_le
  have Hba := Lib.hid (show ra.take u = rb by rw [← hu]; exact (List.prefix_iff_eq_take.1 hba).symm)
  obtain ⟨vp, hvp⟩ : ∃ v, placeI p = v := ⟨_, rfl⟩
  obtain ⟨vq, hvq⟩ : ∃ v, placeI q = v := ⟨_, rfl⟩
  have Hlk := Lib.hid hlkl
  have Hs := Lib.hid hs
  have Ht := Lib.hid ht
  have Hz := Lib.hid hz
  have Hy := Lib.hid hy
  have HS := Lib.hid hS
  have HT := Lib.hid hT
  have Hx := Lib.hid hx
  have Hu := Lib.hid hu
  have Hvp := Lib.hid hvp
  have Hvq := Lib.hid hvq
  have d1 : decide (y ≤ z) = true := by simp; omega
  have d2 : decide (u ≤ x) = true := by simp; omega
  clear hl hlk hlkl hs ht hz hy hts hS hT hx hu hba hvp hvq
  go_wp2_with fail
  go_region_held3 (fun W => Below w2.heap.size w2 W) (first | assumption | exact (Below.refl _ _).drew)
    (first
      | (go_at_call_of 16 (Value.slice Al m cl); refine (stuff_at _ Hl.out (rl.to (by assumption)) HR.out (by omega) Hs.out Hz.out).mono ?_; rintro e w3 ⟨A3, c3, rfl, hc3, r3, b3⟩; have hB := below_next (by assumption) b3)
      | (go_at_call 16; refine (stuff_at _ Hlk.out (rk.to (by assumption)) HRK.out (by omega) Ht.out Hy.out).mono ?_; rintro e w4 ⟨A4, c4, rfl, hc4, r4, b4⟩; have r3' := r3.to b4; have hB := below_next hB b4))
  have t4 := below_next t2 hB
  replace rl := rl.to hB
  replace rk := rk.to hB
  go_wp2_with fail
  refine (strip_at _ Hl.out rl (by omega) HS.out Hx.out Hvp.out).mono ?_
  rintro e w5 ⟨A5, c5, rfl, hc5, r5, b5⟩
  replace rk := rk.to b5
  replace r3' := r3'.to b5
  replace r4 := r4.to b5
  have t5 := below_then t4 b5
  go_wp2_with fail
  refine (strip_at _ Hlk.out rk (by omega) HT.out Hu.out Hvq.out).mono ?_
  rintro e w6 ⟨A6, c6, rfl, hc6, r6, b6⟩
  replace r3' := r3'.to b6
  replace r4 := r4.to b6
  replace r5 := r5.to b6
  have t6 := below_then t5 b6
  have rs : Row .i64 w6 w6.heap.size A3 t := by
    have := r3'.sub_ 0 y (by omega) (by rw [Hz.out]; omega) (A' := A3) (fun _ => by cases A3 <;> rfl)
    rwa [List.drop_zero, Nat.sub_zero, Hts.out] at this
  have rs2 : Row .i64 w6 w6.heap.size A5 rb := by
    have := r5.sub_ 0 u (by omega) (by rw [Hx.out]; omega) (A' := A5) (fun _ => by cases A5 <;> rfl)
    rwa [List.drop_zero, Nat.sub_zero, Hba.out] at this
  go_wp2_with fail
  refine (ints_at _ _ Hy.out Hy.out rs r4 (by omega) (by omega) (same_yes _)).mono ?_
  rintro e w7 ⟨rfl, b7⟩
  replace rs2 := rs2.to b7
  replace r6 := r6.to b7
  have t7 := below_then t6 b7
  go_wp2_with fail
  refine (ints_at _ _ Hu.out Hu.out rs2 r6 (by omega) (by omega) (same_yes _)).mono ?_
  rintro e w8 ⟨rfl, b8⟩
  go_wp2_with fail
  go_ret
  exact ⟨rfl, below_then t7 b8⟩

end Go.Proofs.Ytlbefdonpnignaa
