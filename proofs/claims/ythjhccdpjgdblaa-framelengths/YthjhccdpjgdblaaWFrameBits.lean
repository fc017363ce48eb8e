/-
  FrameBits, walked: bits of which a frame is read begin with its head, and the frame is right.
-/
import Derived.Test.YthjhccdpjgdblaaFrMath
namespace Go.Proofs.Ythjhccdpjgdblaa
open Go.RowKit

theorem refRight_q (l : List Int) (n : Nat) (hn : l.length = n) (A : Option Addr) (c : Nat) (w : World) (h : Row .i64 w w.heap.size A l) (hl : n ≤ maxLen) (q : Bool) (hq : rightB l = q) :
    Calls Try.prog 21 #[.slice A n c] w fun e w' => e = .returned (.bool q) ∧ Below w.heap.size w w' := by
  subst hn hq
  exact (refRight_any l A c _ w h hl).mono fun _ _ ⟨h1, h2⟩ => ⟨h1, h2 ▸ Below.refl _ _⟩
theorem rightV_of (x : Bool) (ID : Nat) (r : Bool) (L m : Nat) (hID : idOk x ID) (hL : L ≤ 8) (hm : m = if r then 0 else L) : rightV x ID r L m = true := by
  unfold rightV idOk at *
  rw [decide_eq_true_eq]
  refine ⟨by omega, ?_, by omega, by omega, ?_⟩
  · cases x <;> simp at hID ⊢ <;> omega
  · cases r <;> simp at hm ⊢ <;> omega

set_option maxRecDepth 100000 in
set_option maxHeartbeats 8000000 in
theorem frameBits_walk (l : List Int) (n : Nat) (hn : l.length = n) (A : Option Addr) (c : Nat) (w : World) (h : Row .i64 w w.heap.size A l) (hc : n ≤ c) (hm : n ≤ maxLen) :
    Calls Try.prog 5 #[.slice A n c] w fun e w' => e = .returned (.bool true) ∧ Below w.heap.size w w' := by
  have HN := Lib.hid hn
  clear hn
  have hB0 : Below w.heap.size w w := Below.refl _ _
  go_enter Try.func5, Try.ntmps5
  go_wp2_with fail
  refine (head_any _).mono ?_
  rintro e w1 ⟨rfl, hB1⟩
  by_cases h1 : 500 < n
  · have d1 : decide ((500 : Int) < (n : Int)) = true := by simp; omega
    go_wp2_with fail
    go_ret
    exact ⟨rfl, hB1⟩
  have d1 : decide ((500 : Int) < (n : Int)) = false := by simp; omega
  go_wp2_with fail
  by_cases h2 : rightB l = true
  rotate_left
  · refine (refRight_q l n HN.out A c _ (by repeat (first | assumption | exact Below.refl _ _ | ((with_reducible refine lit2 _ _ _ _ _ ?_); (first | (with_reducible rfl) | (simp; done))) | ((with_reducible refine lit1 _ _ _ _ ?_); (first | (with_reducible rfl) | (simp; done))) | refine row_step (by first | assumption | exact below_alloc1 _ _ | exact below_drew1 _ | exact below_drewN0 _ _) ?_ | refine block_below (by first | assumption | exact below_alloc1 _ _ | exact below_drew1 _ | exact below_drewN0 _ _) ?_ | refine below_then ?_ (by first | assumption | exact below_alloc1 _ _ | exact below_drew1 _ | exact below_drewN0 _ _))) hm false (by simpa using h2)).mono ?_
    rintro e w2 ⟨rfl, hB2⟩
    clear h2
    go_wp2_with fail
    go_ret
    exact ⟨rfl, by repeat (first | assumption | exact Below.refl _ _ | ((with_reducible refine lit2 _ _ _ _ _ ?_); (first | (with_reducible rfl) | (simp; done))) | ((with_reducible refine lit1 _ _ _ _ ?_); (first | (with_reducible rfl) | (simp; done))) | refine row_step (by first | assumption | exact below_alloc1 _ _ | exact below_drew1 _ | exact below_drewN0 _ _) ?_ | refine block_below (by first | assumption | exact below_alloc1 _ _ | exact below_drew1 _ | exact below_drewN0 _ _) ?_ | refine below_then ?_ (by first | assumption | exact below_alloc1 _ _ | exact below_drew1 _ | exact below_drewN0 _ _))⟩
  have H2 := Lib.hid h2
  clear h2
  refine (refRight_q l n HN.out A c _ (by repeat (first | assumption | exact Below.refl _ _ | ((with_reducible refine lit2 _ _ _ _ _ ?_); (first | (with_reducible rfl) | (simp; done))) | ((with_reducible refine lit1 _ _ _ _ ?_); (first | (with_reducible rfl) | (simp; done))) | refine row_step (by first | assumption | exact below_alloc1 _ _ | exact below_drew1 _ | exact below_drewN0 _ _) ?_ | refine block_below (by first | assumption | exact below_alloc1 _ _ | exact below_drew1 _ | exact below_drewN0 _ _) ?_ | refine below_then ?_ (by first | assumption | exact below_alloc1 _ _ | exact below_drew1 _ | exact below_drewN0 _ _))) hm true H2.out).mono ?_
  rintro e w2 ⟨rfl, hB2⟩
  go_wp2_with fail
  cases hres : readL l with
  | error ee =>
    have hee := read_err hres
    have HR := Lib.hid hres
    clear hres
    refine (read_any l n HN.out A c _ (by repeat (first | assumption | exact Below.refl _ _ | ((with_reducible refine lit2 _ _ _ _ _ ?_); (first | (with_reducible rfl) | (simp; done))) | ((with_reducible refine lit1 _ _ _ _ ?_); (first | (with_reducible rfl) | (simp; done))) | refine row_step (by first | assumption | exact below_alloc1 _ _ | exact below_drew1 _ | exact below_drewN0 _ _) ?_ | refine block_below (by first | assumption | exact below_alloc1 _ _ | exact below_drew1 _ | exact below_drewN0 _ _) ?_ | refine below_then ?_ (by first | assumption | exact below_alloc1 _ _ | exact below_drew1 _ | exact below_drewN0 _ _))) H2.out (by omega)).mono ?_
    rw [HR.out]
    rintro e w3 ⟨rfl, hB3⟩
    rcases hee with rfl | rfl | rfl
    all_goals
      go_wp2_with fail
      refine (refFrSame_at false 0 false 0 [] 0 rfl none 0 false 0 false 0 [] 0 rfl none 0 _ (.inl rfl) (.inl rfl) byte_nil byte_nil true (by decide)).mono ?_
      rintro e w4 ⟨rfl, hB4⟩
      go_wp2_with fail
      go_ret
      exact ⟨rfl, by repeat (first | assumption | exact Below.refl _ _ | ((with_reducible refine lit2 _ _ _ _ _ ?_); (first | (with_reducible rfl) | (simp; done))) | ((with_reducible refine lit1 _ _ _ _ ?_); (first | (with_reducible rfl) | (simp; done))) | refine row_step (by first | assumption | exact below_alloc1 _ _ | exact below_drew1 _ | exact below_drewN0 _ _) ?_ | refine block_below (by first | assumption | exact below_alloc1 _ _ | exact below_drew1 _ | exact below_drewN0 _ _) ?_ | refine below_then ?_ (by first | assumption | exact below_alloc1 _ _ | exact below_drew1 _ | exact below_drewN0 _ _))⟩
  | ok p =>
    obtain ⟨⟨fx, fi, fr, fl, fd⟩, n'⟩ := p
    obtain ⟨ID, L, hf, hID, hL, hd, hb, hn', hh, hnn⟩ := read_back H2.out hres
    simp only [Fr.mk.injEq, true_and, and_true] at hf hID hd hb hh hnn
    obtain ⟨rfl, rfl⟩ := hf
    have HR := Lib.hid hres
    rw [HN.out] at hn'
    clear hres
    refine (read_any l n HN.out A c _ (by repeat (first | assumption | exact Below.refl _ _ | ((with_reducible refine lit2 _ _ _ _ _ ?_); (first | (with_reducible rfl) | (simp; done))) | ((with_reducible refine lit1 _ _ _ _ ?_); (first | (with_reducible rfl) | (simp; done))) | refine row_step (by first | assumption | exact below_alloc1 _ _ | exact below_drew1 _ | exact below_drewN0 _ _) ?_ | refine block_below (by first | assumption | exact below_alloc1 _ _ | exact below_drew1 _ | exact below_drewN0 _ _) ?_ | refine below_then ?_ (by first | assumption | exact below_alloc1 _ _ | exact below_drew1 _ | exact below_drewN0 _ _))) H2.out (by omega)).mono ?_
    rw [HR.out]
    rintro e w3 ⟨D, m, c', rfl, hml, hmc, hr3, hB3⟩
    simp only at hml hr3
    have hrv := rightV_of fx ID fr L m hID hL (by rw [← hml]; exact hd)
    have hm8 : m ≤ 8 := by rw [← hml, hd]; split <;> omega
    have hlt : (l.take n').length = n' := by simp [HN.out]; omega
    have HV := Lib.hid hrv
    have HD := Lib.hid hml
    have HH := Lib.hid hh
    have HB := Lib.hid hb
    have HLT := Lib.hid hlt
    have HE := Lib.hid (show hn fx + 8 * m = n' by rw [hnn, hml])
    clear hrv hml hh hb hd hnn hlt
    have p1 : (0 : Int) ≤ (n' : Int) := by omega
    have p2 : (n' : Int) ≤ (n : Int) := by omega
    have p3 : decide ((n' : Int) ≤ (n : Int)) = true := by simp; omega
    have p3' : decide (n' ≤ n) = true := by simp; omega
    have p4 : (n' : Int) ≤ (c : Int) := by omega
    have p5 : n' ≤ c := by omega
    have p6 : decide ((0 : Int) ≤ (n' : Int)) = true := by simp
    go_wp2_with fail
    obtain ⟨w4, hw4⟩ : ∃ w4, w3.alloc (.cells #[.bool fx, .int .i64 ID, .bool fr, .int .i64 L, .slice D m c'] 24) = w4 := ⟨_, rfl⟩
    have hF4 : w4.heap[w3.heap.size]? = some (.cells #[.bool fx, .int .i64 ID, .bool fr, .int .i64 L, .slice D m c'] 24) := by rw [← hw4]; exact World.alloc_heap_new _ _
    have hB4 := below_lits hw4
    rw [hw4]
    clear hw4
    have hl4 : Row .i64 w4 w4.heap.size A l := by repeat (first | assumption | exact Below.refl _ _ | ((with_reducible refine lit2 _ _ _ _ _ ?_); (first | (with_reducible rfl) | (simp; done))) | ((with_reducible refine lit1 _ _ _ _ ?_); (first | (with_reducible rfl) | (simp; done))) | refine row_step (by first | assumption | exact below_alloc1 _ _ | exact below_drew1 _ | exact below_drewN0 _ _) ?_ | refine block_below (by first | assumption | exact below_alloc1 _ _ | exact below_drew1 _ | exact below_drewN0 _ _) ?_ | refine below_then ?_ (by first | assumption | exact below_alloc1 _ _ | exact below_drew1 _ | exact below_drewN0 _ _))
    have hl4' : Row .i64 w4 w4.heap.size A (l.take n') := hl4.sub_ 0 n' (by omega) (by rw [HN.out]; omega) (fun _ => by cases A <;> rfl)
    have hall : Below w.heap.size w w4 := by repeat (first | assumption | exact Below.refl _ _ | ((with_reducible refine lit2 _ _ _ _ _ ?_); (first | (with_reducible rfl) | (simp; done))) | ((with_reducible refine lit1 _ _ _ _ ?_); (first | (with_reducible rfl) | (simp; done))) | refine row_step (by first | assumption | exact below_alloc1 _ _ | exact below_drew1 _ | exact below_drewN0 _ _) ?_ | refine block_below (by first | assumption | exact below_alloc1 _ _ | exact below_drew1 _ | exact below_drewN0 _ _) ?_ | refine below_then ?_ (by first | assumption | exact below_alloc1 _ _ | exact below_drew1 _ | exact below_drewN0 _ _))
    have hr4 := hr3.to hB4
    clear hB0 hB1 hB2 hB3 hB4 hr3 hl4
    go_region_held3 (fun W => W.cell? ⟨w3.heap.size, 0, none⟩ = some (.bool fx) ∧ W.cell? ⟨w3.heap.size, 1, none⟩ = some (.int .i64 ID) ∧ W.cell? ⟨w3.heap.size, 2, none⟩ = some (.bool fr) ∧ W.cell? ⟨w3.heap.size, 3, none⟩ = some (.int .i64 L) ∧ W.cell? ⟨w3.heap.size, 4, none⟩ = some (.slice D m c'))
      (exact cells5' (by repeat (first | assumption | exact Below.refl _ _ | ((with_reducible refine lit2 _ _ _ _ _ ?_); (first | (with_reducible rfl) | (simp; done))) | ((with_reducible refine lit1 _ _ _ _ ?_); (first | (with_reducible rfl) | (simp; done))) | refine row_step (by first | assumption | exact below_alloc1 _ _ | exact below_drew1 _ | exact below_drewN0 _ _) ?_ | refine block_below (by first | assumption | exact below_alloc1 _ _ | exact below_drew1 _ | exact below_drewN0 _ _) ?_ | refine below_then ?_ (by first | assumption | exact below_alloc1 _ _ | exact below_drew1 _ | exact below_drewN0 _ _))))
      (first
        | (go_at_call 12; refine (frRight_q fx ID fr L D m c' _ true HV.out).mono ?_; rintro e w5 ⟨rfl, hB5⟩)
        | (go_at_call 17; refine (head_at fx ID fr L fd m HD.out D c' hID hL _ (by repeat (first | assumption | exact Below.refl _ _ | ((with_reducible refine lit2 _ _ _ _ _ ?_); (first | (with_reducible rfl) | (simp; done))) | ((with_reducible refine lit1 _ _ _ _ ?_); (first | (with_reducible rfl) | (simp; done))) | refine row_step (by first | assumption | exact below_alloc1 _ _ | exact below_drew1 _ | exact below_drewN0 _ _) ?_ | refine block_below (by first | assumption | exact below_alloc1 _ _ | exact below_drew1 _ | exact below_drewN0 _ _) ?_ | refine below_then ?_ (by first | assumption | exact below_alloc1 _ _ | exact below_drew1 _ | exact below_drewN0 _ _))) HB.out (by omega) (8 * m) rfl n' HE.out).mono ?_; rintro e w6 ⟨A6, c6, rfl, hr6, hc6, hB6⟩)
        | (go_at_call 16; refine (same_q (headV fx ID fr L fd) (l.take n') n' n' (by rw [HH.out]; exact HLT.out) HLT.out A6 A c6 c _ (by repeat (first | assumption | exact Below.refl _ _ | ((with_reducible refine lit2 _ _ _ _ _ ?_); (first | (with_reducible rfl) | (simp; done))) | ((with_reducible refine lit1 _ _ _ _ ?_); (first | (with_reducible rfl) | (simp; done))) | refine row_step (by first | assumption | exact below_alloc1 _ _ | exact below_drew1 _ | exact below_drewN0 _ _) ?_ | refine block_below (by first | assumption | exact below_alloc1 _ _ | exact below_drew1 _ | exact below_drewN0 _ _) ?_ | refine below_then ?_ (by first | assumption | exact below_alloc1 _ _ | exact below_drew1 _ | exact below_drewN0 _ _))) (by repeat (first | assumption | exact Below.refl _ _ | ((with_reducible refine lit2 _ _ _ _ _ ?_); (first | (with_reducible rfl) | (simp; done))) | ((with_reducible refine lit1 _ _ _ _ ?_); (first | (with_reducible rfl) | (simp; done))) | refine row_step (by first | assumption | exact below_alloc1 _ _ | exact below_drew1 _ | exact below_drewN0 _ _) ?_ | refine block_below (by first | assumption | exact below_alloc1 _ _ | exact below_drew1 _ | exact below_drewN0 _ _) ?_ | refine below_then ?_ (by first | assumption | exact below_alloc1 _ _ | exact below_drew1 _ | exact below_drewN0 _ _))) (by omega) true (by rw [HH.out]; simp [sameB])).mono ?_; rintro e w7 ⟨rfl, hB7⟩))
    all_goals
      go_wp2_with fail
      go_ret
      exact ⟨rfl, hall.trans (Below.mono (B := w4.heap.size) (by repeat (first | assumption | exact Below.refl _ _ | ((with_reducible refine lit2 _ _ _ _ _ ?_); (first | (with_reducible rfl) | (simp; done))) | ((with_reducible refine lit1 _ _ _ _ ?_); (first | (with_reducible rfl) | (simp; done))) | refine row_step (by first | assumption | exact below_alloc1 _ _ | exact below_drew1 _ | exact below_drewN0 _ _) ?_ | refine block_below (by first | assumption | exact below_alloc1 _ _ | exact below_drew1 _ | exact below_drewN0 _ _) ?_ | refine below_then ?_ (by first | assumption | exact below_alloc1 _ _ | exact below_drew1 _ | exact below_drewN0 _ _))) hall.size)⟩

end Go.Proofs.Ythjhccdpjgdblaa
