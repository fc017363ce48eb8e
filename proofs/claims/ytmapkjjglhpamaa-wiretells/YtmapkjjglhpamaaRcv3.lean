/-
  The receiver: whole, checked.
-/
import Derived.Test.YtmapkjjglhpamaaRcv2
namespace Go.Proofs.Ytmapkjjglhpamaa
open Go.RowKit

set_option maxRecDepth 100000 in
set_option maxHeartbeats 1000000 in
theorem whole_any (R : Nat) (hv pv : Value) (D : Option Addr) (m c : Nat) (H P : List Int) (n q : Nat) (hd : Nat) (f : Fr) (t : Nat) (w : World) (h : Rc w R hv pv D m c H P n q hd f t) (hm : n ≤ 100000) (hhd : hd ≤ 100000) (v : Bool) (hvv : (decide (0 < hd) && decide (q = hd + 15) && !fiveB H) = v) :
    Calls Try.prog 44 #[.pointer (some ⟨R, 0, none⟩)] w fun e w' => e = .returned (.bool v) ∧ Below w.heap.size w w' := by
  have c2 := h.c2
  have c1 := h.c1
  obtain ⟨A, c', rfl, hc'⟩ := h.pform
  by_cases h0 : 0 < hd
  · have d1 : decide ((0 : Int) < (hd : Int)) = true := by simp; omega
    by_cases h1 : q = hd + 15
    · subst h1
      have d2 : IntKind.i64.wrap ((hd : Int) + 15) = (hd : Int) + 15 := by rw [IntKind.wrap_i64]; omega
      obtain ⟨x, hx⟩ : ∃ x, fiveB H = x := ⟨_, rfl⟩
      have Hx := Lib.hid hx
      obtain rfl : v = !x := by rw [← hvv, ← hx]; simp [h0]
      clear hvv hx
      go_enter Try.func44, Try.ntmps44
      go_wp2_with fail
      go_still_tail 20, (by kernel_rfl)
      change wpList _ _ _ _ _ w.drew
      have h2 := h.drew
      have hB2 := below_drew1 w
      generalize w.drew = w2 at h2 hB2 ⊢
      go_wp2_with (go_at_call 68; refine (due_any R _ _ D m c H P n _ hd f t _ h2 hm x Hx.out).mono ?_; rintro e w1 ⟨rfl, hB⟩)
      go_ret
      exact ⟨rfl, below_then hB2 hB⟩
    · have d2 : ((q : Int) == (hd : Int) + 15) = false := by simp; omega
      obtain rfl : v = false := by rw [← hvv]; simp [h1]
      have h2 : (q == hd + 15) = false := by simp; omega
      clear hvv h
      go_enter Try.func44, Try.ntmps44
      go_wp2_with fail
      go_quiet (fail)
      go_wp2_with fail
      go_ret
      exact ⟨rfl, below_drewN0 _ _⟩
  · obtain rfl : hd = 0 := by omega
    obtain rfl : v = false := by rw [← hvv]; simp
    clear hvv h0 h
    go_enter Try.func44, Try.ntmps44
    go_wp2_with fail
    go_quiet (fail)
    go_wp2_with fail
    go_ret
    exact ⟨rfl, below_drewN0 _ _⟩

theorem crcBits_at (l : List Int) (n : Nat) (hn : l.length = n) (A : Option Addr) (c : Nat) (w : World) (h : Row .i64 w w.heap.size A l) (hr : rightB l = true) (hm : n ≤ maxLen) (v : Int) (hv : ((crc15 l).toNat : Int) = v) :
    Calls Try.prog 37 #[.slice A n c] w fun e w' => e = .returned (.int .i64 v) ∧ Below w.heap.size w w' := by
  subst hv; exact bits_any l n hn A c w h hr hm

theorem rc12 {w : World} {R : Nat} {a b d e1 e2 e3 e4 e5 e6 : Value} {t : TypeId} (h : w.heap[R]? = some (.cells #[a, b, d, e1, e2, e3, e4, e5, e6] t)) : w.cell? ⟨R, 1, none⟩ = some b ∧ w.cell? ⟨R, 2, none⟩ = some d := by
  constructor <;> simp [World.cell?, h]

set_option maxRecDepth 100000 in
set_option maxHeartbeats 1000000 in
theorem checked_any (R : Nat) (hv pv : Value) (D : Option Addr) (m c : Nat) (H P : List Int) (n q : Nat) (hd : Nat) (f : Fr) (t : Nat) (w : World) (h : Rc w R hv pv D m c H P n q hd f t) (hr : rightB P = true) (hhd : 0 < hd) (hq1 : hd + 15 = q) (hq : q ≤ 1000000) (v : Bool) (hvv : decide (numOf (P.drop hd) = (crc15 (P.take hd)).toNat) = v) :
    Calls Try.prog 70 #[.pointer (some ⟨R, 0, none⟩)] w fun e w' => e = .returned (.bool v) ∧ Below w.heap.size w w' := by
  have c2 := h.c2
  have c1 := h.c1
  obtain ⟨A, c', rfl, hc'⟩ := h.pform
  have hrow := h.prow
  have hlen := h.lP
  obtain ⟨ad, rfl⟩ : ∃ ad, A = some ad := by
    obtain ⟨ad, _, e, _⟩ := hrow.get_ (k := 0) (by omega)
    exact ⟨ad, e⟩
  obtain ⟨x, hx⟩ : ∃ x : Nat, numOf (P.drop hd) = x := ⟨_, rfl⟩
  obtain ⟨y, hy⟩ : ∃ y : Nat, (crc15 (P.take hd)).toNat = y := ⟨_, rfl⟩
  have dv : ((x : Int) == (y : Int)) = v := by
    rw [← hvv, hx, hy]
    by_cases e : x = y
    · simp [e]
    · have : ¬ (x : Int) = (y : Int) := by omega
      simp [e, this]
  have hl1 : (P.drop hd).length = 15 := by simp; omega
  have hl2 : (P.take hd).length = hd := by simp; omega
  have g1 : getOk (P.drop hd) = true := by unfold getOk; rw [hl1, rightB_drop hr hd]; simp
  have r1 : Row .i64 w w.heap.size (some (ad.add hd)) (P.drop hd) := by
    have := hrow.sub_ hd q (by omega) (by omega) (A' := some (ad.add hd)) (fun _ => rfl)
    rwa [show q - hd = 15 by omega, List.take_of_length_le (by omega)] at this
  have r2 : Row .i64 w w.heap.size (some ad) (P.take hd) := by
    have := hrow.sub_ 0 hd (by omega) (by omega) (A' := some ad) (fun _ => by simp [Addr.add])
    simpa using this
  have Hl1 := Lib.hid hl1
  have Hl2 := Lib.hid hl2
  have Hx := Lib.hid (show ((numOf (P.drop hd) : Nat) : Int) = (x : Int) by rw [hx])
  have Hy := Lib.hid (show ((crc15 (P.take hd)).toNat : Int) = (y : Int) by rw [hy])
  have G1 := Lib.hid g1
  have R2 := Lib.hid (rightB_take hr hd)
  have Dv := Lib.hid dv
  have Hob := Lib.hid h.obj
  subst hq1
  have hkc : hd < c' := by omega
  have hkc' : ¬ c' = hd := by omega
  have hkc2 : (hd : Int) ≤ (hd : Int) + 15 := by omega
  have hkc3 : (hd : Int) ≤ (c' : Int) := by omega
  have hkc4 : hd ≤ c' := by omega
  clear h hr hvv dv hl1 hl2 g1 hx hy hlen
  go_enter Try.func70, Try.ntmps70
  go_wp2_with fail
  go_quiet ((go_at_call 81; refine Calls.quiet_of_same ((get_yes_at _ 15 Hl1.out x Hx.out _ _ w.heap.size _ ?_ G1.out).mono fun _ _ ⟨h1, h2⟩ => ⟨h1, h2.symm⟩); exact r1.drewN _))
  go_wp2_with fail
  have hB2 := below_drewN0 w nq
  have hob := obj_below Hob.out hB2
  have r3 := r2.to hB2
  generalize w.drewN nq = w2 at hB2 hob r3 ⊢
  clear r1 r2 c1 c2 hrow Hob
  go_region_held3 (fun W => W.cell? ⟨R, 1, none⟩ = some (.slice (some ad) (hd + 15) c') ∧ W.cell? ⟨R, 2, none⟩ = some (.int .i64 hd))
    (exact rc12 (by repeat (first | assumption | exact Below.refl _ _ | ((with_reducible refine lit2 _ _ _ _ _ ?_); (first | (with_reducible rfl) | (simp; done))) | ((with_reducible refine lit1 _ _ _ _ ?_); (first | (with_reducible rfl) | (simp; done))) | refine row_step (by first | assumption | exact below_alloc1 _ _ | exact below_drew1 _ | exact below_drewN0 _ _) ?_ | refine block_below (by first | assumption | exact below_alloc1 _ _ | exact below_drew1 _ | exact below_drewN0 _ _) ?_ | refine below_then ?_ (by first | assumption | exact below_alloc1 _ _ | exact below_drew1 _ | exact below_drewN0 _ _))))
    ((go_at_call 37; refine (crcBits_at _ hd Hl2.out _ _ _ (show Row .i64 _ _ _ (P.take hd) by repeat (first | assumption | exact Below.refl _ _ | ((with_reducible refine lit2 _ _ _ _ _ ?_); (first | (with_reducible rfl) | (simp; done))) | ((with_reducible refine lit1 _ _ _ _ ?_); (first | (with_reducible rfl) | (simp; done))) | refine row_step (by first | assumption | exact below_alloc1 _ _ | exact below_drew1 _ | exact below_drewN0 _ _) ?_ | refine block_below (by first | assumption | exact below_alloc1 _ _ | exact below_drew1 _ | exact below_drewN0 _ _) ?_ | refine below_then ?_ (by first | assumption | exact below_alloc1 _ _ | exact below_drew1 _ | exact below_drewN0 _ _))) R2.out (by unfold maxLen; omega) y Hy.out).mono ?_; rintro e w1 ⟨rfl, hB⟩))
  all_goals
    go_wp2_with fail
    go_ret
    exact ⟨ret_bool Dv.out, below_then hB2 (by repeat (first | assumption | exact Below.refl _ _ | ((with_reducible refine lit2 _ _ _ _ _ ?_); (first | (with_reducible rfl) | (simp; done))) | ((with_reducible refine lit1 _ _ _ _ ?_); (first | (with_reducible rfl) | (simp; done))) | refine row_step (by first | assumption | exact below_alloc1 _ _ | exact below_drew1 _ | exact below_drewN0 _ _) ?_ | refine block_below (by first | assumption | exact below_alloc1 _ _ | exact below_drew1 _ | exact below_drewN0 _ _) ?_ | refine below_then ?_ (by first | assumption | exact below_alloc1 _ _ | exact below_drew1 _ | exact below_drewN0 _ _)))⟩

end Go.Proofs.Ytmapkjjglhpamaa
