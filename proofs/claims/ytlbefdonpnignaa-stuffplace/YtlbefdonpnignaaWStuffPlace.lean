/-
  StuffPlace: the place of a fault is that of a bit behind five that it is alike to; ahead of it all is right but that the opposite is missing.
-/
import Derived.Test.YtlbefdonpnignaaLaw3
namespace Go.Proofs.Ytlbefdonpnignaa
open Go.RowKit

set_option maxRecDepth 100000 in
set_option maxHeartbeats 2000000 in
theorem stuffPlace_walk (a : List Int) (n : Nat) (hn : a.length = n) (A : Option Addr) (c : Nat) (w : World) (h : Row .i64 w w.heap.size A a) (hmx : n ≤ maxLen) :
    Calls Try.prog 8 #[.slice A n c] w fun e w' => e = .returned (.bool true) ∧ Below w.heap.size w w' := by
  have hN := Lib.hid hn
  clear hn
  go_enter Try.func8, Try.ntmps8
  go_wp2_with fail
  refine (head_any _).mono ?_
  rintro e w1 ⟨rfl, b1⟩
  have h1 := h.to b1
  clear h
  go_wp2_with fail
  refine (bits_at _ hN.out h1 hmx).mono ?_
  rintro e w2 ⟨Al, cl, m, rfl, hl, hm3, hcl, rl, b2⟩
  have t2 := below_then b1 b2
  obtain ⟨l, hlo⟩ : ∃ l, lowL a = l := ⟨_, rfl⟩
  have hr : rightB l = true := by rw [← hlo]; exact lowL_right a
  rw [hlo] at hl rl
  have Hl := Lib.hid hl
  have HR := Lib.hid hr
  clear hlo h1 b1 b2 hN hmx hr
  obtain ⟨⟨r, p⟩, hS⟩ : ∃ S, stripL l = S := ⟨_, rfl⟩
  have hrl : r.length ≤ m := by have := strip_len l (0, 0); rw [show stripF (0, 0) l = (r, p) from hS, hl] at this; exact this
  have HS := Lib.hid hS
  obtain ⟨x, hx⟩ : ∃ x, r.length = x := ⟨_, rfl⟩
  rw [hx] at hrl
  have Hx := Lib.hid hx
  cases p with
  | none =>
    have d1 : decide (x ≤ m) = true := by simp; omega
    clear hl hS hx
    go_wp2_with fail
    refine (strip_at _ Hl.out rl (by omega) HS.out Hx.out (v := -1) rfl).mono ?_
    rintro e w3 ⟨A3, c3, rfl, -, -, b3⟩
    go_wp2_with fail
    go_ret
    exact ⟨rfl, below_then t2 b3⟩
  | some q =>
    obtain ⟨p1, p2, p3, p4, p5⟩ := strip_place l (0, 0) q (by simp) (by rw [show stripF (0, 0) l = (r, some q) from HS.out])
    have hlen : (l.take q).length = q := by rw [List.length_take]; omega
    have p6 : 5 ≤ q := by
      have h1 := runOf_le (l.take q)
      rw [show (runOf (l.take q)).2 = 5 from p3, hlen] at h1
      exact h1
    obtain ⟨j, rfl⟩ : ∃ j, q = j + 5 := ⟨q - 5, by omega⟩
    obtain ⟨v, hv⟩ : ∃ v, (runOf (l.take (j + 5))).1 = v := ⟨_, rfl⟩
    have hall : ∀ k, j ≤ k → k < j + 5 → l[k]? = some v := by
      intro k h1 h2
      have := runOf_at (l.take (j + 5)) k (by rw [hlen, show (runOf (l.take (j + 5))).2 = 5 from p3]; omega) (by rw [hlen]; exact h2)
      rw [List.getElem?_take, if_pos h2, hv] at this
      exact this
    have Hall := Lib.hid hall
    have Hlast := Lib.hid (hall (j + 4) (by omega) (by omega))
    rw [hl] at p1
    obtain ⟨ad, rfl⟩ : ∃ ad, Al = some ad := by
      obtain ⟨ad, _, e, _⟩ := rl.get_ (k := 0) (by omega)
      exact ⟨ad, e⟩
    obtain ⟨lk, hlk⟩ : ∃ lk, l.take (j + 5) = lk := ⟨_, rfl⟩
    rw [hlk] at hlen
    have rk : Row .i64 w2 w2.heap.size (some ad) lk := by
      have := rl.sub_ 0 (j + 5) (by omega) (by omega) (A' := some ad) (fun _ => rfl)
      rwa [List.drop_zero, Nat.sub_zero, hlk] at this
    have Hlk := Lib.hid hlen
    have HT := Lib.hid (show stripL lk = (r, some (j + 5)) by rw [← hlk]; rw [show stripF (0, 0) l = (r, some (j + 5)) from HS.out] at p5; exact p5)
    have d1 : ((j : Int) + 5 == -1) = false := by simp; omega
    have d2 : decide ((j : Int) + 5 < 5) = false := by simp; omega
    have d3 : decide ((m : Int) < (j : Int) + 5) = false := by simp; omega
    have dv : (v != v) = false := by simp
    have hjc : j + 5 ≤ cl := by omega
    by_cases hqm : j + 5 < m
    · have Hp := Lib.hid (show l[j + 5]? = some v by rw [List.getElem?_eq_getElem (by omega)]; congr 1; have := p4 l[j + 5] (List.getElem?_eq_getElem (by omega)); rw [this]; exact hv)
      have d4 : decide ((j : Int) + 5 < (m : Int)) = true := by simp; omega
      clear hl hS hx p2 p3 p4 p5 hv hall hlk hlen
      go_wp2_with fail
      refine (strip_at _ Hl.out rl (by omega) HS.out Hx.out (v := (j : Int) + 5) rfl).mono ?_
      rintro e w3 ⟨A3, c3, rfl, -, r3, b3⟩
      replace rl := rl.to b3
      replace rk := rk.to b3
      have t3 := below_then t2 b3
      have cl1 := Row.at_ rl Hlast.out
      simp [Addr.add] at cl1
      have cp := Row.at_ rl Hp.out
      simp [Addr.add] at cp
      go_wp2_with fail
      go_loopw [6] (fun i wr => ∃ (k dq : Nat), j ≤ k ∧ k ≤ j + 5 ∧ i = .int .i64 k ∧ wr = w3.drewN dq) (fun i _ => j + 5 - (intOf i).toNat)
      case atStart => exact ⟨j, 0, Nat.le_refl _, by omega, by go_num, rfl⟩
      case round =>
        obtain ⟨k, dq, hjk, hk5, rfl, rfl⟩ := hrel
        by_cases hlt : k < j + 5
        · have ck := Row.at_ rl (Hall.out k hjk hlt)
          have hkm : k < m := by omega
          have dk : decide ((k : Int) < (j : Int) + 5) = true := by simp; omega
          go_wp2_with fail
          go_quiet (fail)
          go_wp2_with fail
          exact ⟨⟨k + 1, _, by omega, by omega, by go_num, rfl⟩, by simp [intOf]; omega⟩
        · obtain rfl : k = j + 5 := by omega
          go_wp2_with fail
          refine (strip_at _ Hlk.out (rk.drewN dq) (by omega) HT.out Hx.out (v := (j : Int) + 5) rfl).mono ?_
          rintro e w4 ⟨A4, c4, rfl, -, r4, b4⟩
          replace r3 := r3.to (below_then (below_drewN0 w3 dq) b4)
          have t4 := below_then t3 (below_then (below_drewN0 w3 dq) b4)
          go_wp2_with fail
          refine (ints_at _ _ Hx.out Hx.out r3 r4 (by omega) (by omega) (same_yes _)).mono ?_
          rintro e w5 ⟨rfl, b5⟩
          go_wp2_with fail
          go_ret
          exact ⟨rfl, below_then t4 b5⟩
    · have d4 : decide ((j : Int) + 5 < (m : Int)) = false := by simp; omega
      clear hl hS hx p2 p3 p4 p5 hv hall hlk hlen
      go_wp2_with fail
      refine (strip_at _ Hl.out rl (by omega) HS.out Hx.out (v := (j : Int) + 5) rfl).mono ?_
      rintro e w3 ⟨A3, c3, rfl, -, r3, b3⟩
      replace rl := rl.to b3
      replace rk := rk.to b3
      have t3 := below_then t2 b3
      have cl1 := Row.at_ rl Hlast.out
      simp [Addr.add] at cl1
      clear hqm
      go_wp2_with fail
      go_loopw [6] (fun i wr => ∃ (k dq : Nat), j ≤ k ∧ k ≤ j + 5 ∧ i = .int .i64 k ∧ wr = w3.drewN dq) (fun i _ => j + 5 - (intOf i).toNat)
      case atStart => exact ⟨j, 0, Nat.le_refl _, by omega, by go_num, rfl⟩
      case round =>
        obtain ⟨k, dq, hjk, hk5, rfl, rfl⟩ := hrel
        by_cases hlt : k < j + 5
        · have ck := Row.at_ rl (Hall.out k hjk hlt)
          have hkm : k < m := by omega
          have dk : decide ((k : Int) < (j : Int) + 5) = true := by simp; omega
          go_wp2_with fail
          go_quiet (fail)
          go_wp2_with fail
          exact ⟨⟨k + 1, _, by omega, by omega, by go_num, rfl⟩, by simp [intOf]; omega⟩
        · obtain rfl : k = j + 5 := by omega
          go_wp2_with fail
          refine (strip_at _ Hlk.out (rk.drewN dq) (by omega) HT.out Hx.out (v := (j : Int) + 5) rfl).mono ?_
          rintro e w4 ⟨A4, c4, rfl, -, r4, b4⟩
          replace r3 := r3.to (below_then (below_drewN0 w3 dq) b4)
          have t4 := below_then t3 (below_then (below_drewN0 w3 dq) b4)
          go_wp2_with fail
          refine (ints_at _ _ Hx.out Hx.out r3 r4 (by omega) (by omega) (same_yes _)).mono ?_
          rintro e w5 ⟨rfl, b5⟩
          go_wp2_with fail
          go_ret
          exact ⟨rfl, below_then t4 b5⟩

end Go.Proofs.Ytlbefdonpnignaa
