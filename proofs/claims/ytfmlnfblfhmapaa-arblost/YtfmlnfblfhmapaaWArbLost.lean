/-
  ArbLost.
-/
import Derived.Test.YtfmlnfblfhmapaaArbX
import Derived.Test.YtfmlnfblfhmapaaHead6
namespace Go.Proofs.Ytfmlnfblfhmapaa
open Go.RowKit
set_option linter.unusedVariables false
set_option linter.unusedSimpArgs false

theorem sub_front {κ : IntKind} {w : World} {B : Nat} {A : Option Addr} {l : List Int} (h : Row κ w B A l) {d : Nat} (hd : d ≤ l.length) : Row κ w B A (l.take d) := by
  have := h.sub_ 0 d (Nat.zero_le _) hd (A' := A) (fun _ => by cases A <;> simp [Addr.add])
  simpa using this

set_option maxRecDepth 100000 in
set_option maxHeartbeats 4000000 in
theorem arbLost_any (fs : List FV) (n0 : Nat) (hn : fs.length = n0) (A : Option Addr) (c : Nat) (w : World) (h : FRow w w.heap.size A fs) (hd : ∀ f ∈ fs, FData w f) (hm : n0 ≤ maxLen) :
    Calls Try.prog 5 #[.slice A n0 c] w fun e w' => e = .returned (.bool true) ∧ Below w.heap.size w w' := by
  go_enter Try.func5, Try.ntmps5
  go_wp2_with fail
  refine (head6_any w).mono ?_
  rintro e w1 ⟨rfl, hB1⟩
  have h1 := h.to hB1
  have hd1 : ∀ f ∈ fs, FData w1 f := fun f hf => (hd f hf).to hB1
  clear h hd
  go_wp2_with fail
  refine (frames_any 10 (by omega) fs n0 hn A c w1 h1 hd1 hm).mono ?_
  rintro e w2 ⟨A2, n, c2, gs, rfl, hl2, hn8, hnc2, hok, hown2, hB2⟩
  have hT2 := below_then hB1 hB2
  have hr2 := FRow.own hown2
  obtain ⟨W, q, hW, hWq, hq⟩ := least_fs gs hok
  obtain ⟨ls, hls⟩ : ∃ ls, (ranks gs).map (lostOf W) = ls := ⟨_, rfl⟩
  have hlsn : ls.length = n := by rw [← hls]; simp [ranks, hl2]
  have HG := Lib.hid (And.intro hl2 (And.intro hok (And.intro hW (And.intro hWq (And.intro hls hlsn)))))
  clear hl2 hok hown2 hB1 hB2 h1 hd1 hn hm hW hWq hls hlsn
  go_wp2_with fail
  refine (lost_any gs n HG.out.1 A2 c2 w2 hr2 HG.out.2.1 (by omega) W HG.out.2.2.1 q HG.out.2.2.2.1 hq).mono ?_
  rw [HG.out.2.2.2.2.1]
  rintro e w3 ⟨A4, rfl, hl3, hB3⟩
  have hr3 := hr2.to hB3
  have hT3 := below_then hT2 hB3
  clear hr2 hT2 hB3
  go_wp2_with fail
  refine (line_any gs n HG.out.1 A2 c2 w3 hr3 HG.out.2.1 (by omega) W HG.out.2.2.1 q HG.out.2.2.2.1 hq).mono ?_
  rintro e w4 ⟨A5, c5, rfl, hqc, hw4, hB4⟩
  have hr4 := hr3.to hB4
  have hl4 := hl3.to hB4
  have hT4 := below_then hT3 hB4
  clear hr3 hl3 hT3 hB4
  go_wp2_with fail
  go_loopw [6] (fun i wr => ∃ k : Nat, k ≤ n ∧ i = .int .i64 k ∧ Below w.heap.size w wr ∧ FRow wr wr.heap.size A2 gs ∧ Row .i64 wr wr.heap.size A4 ls ∧ Row .i64 wr wr.heap.size A5 W) (fun i _ => n - (intOf i).toNat)
  case atStart => exact ⟨0, Nat.zero_le _, rfl, hT4, hr4, hl4, hw4⟩
  case round =>
    clear hr4 hl4 hT4 hw4
    obtain ⟨k, hk, rfl, hB, hr, hl, hw⟩ := hrel
    have hsz := hB.size
    by_cases hlt : k < n
    · obtain ⟨ad, f, rfl, hf, hf0, hf1, hf2, hf3, hf4⟩ := hr.get_ (k := k) (by rw [HG.out.1]; exact hlt)
      obtain ⟨al, x, rfl, hx, hxc⟩ := hl.get_ (k := k) (by rw [HG.out.2.2.2.2.2]; exact hlt)
      have hfok := HG.out.2.1 f (List.mem_of_getElem? hf)
      have hxe : x = lostOf W (rankF f) := by
        rw [← HG.out.2.2.2.2.1, List.getElem?_map, ranks, List.getElem?_map, hf] at hx
        simpa using hx.symm
      obtain ⟨p, hp⟩ : ∃ p, (rankF f).length = p := ⟨_, rfl⟩
      have hp32 : p ≤ 32 := by rw [← hp]; exact rankF_le f
      have hall := HG.out.2.2.1.all (rankF f) (List.mem_map.2 ⟨f, List.mem_of_getElem? hf, rfl⟩)
      have HY := Lib.hid (And.intro hf (And.intro hp (And.intro hx (And.intro hxe hall))))
      clear hf hp hx hxe hall
      go_wp2_with fail
      go_region_held3 (fun W => FCells W (ad.add (k * 5)) f ∧ W.cell? (al.add k) = some (.int .i64 x))
        (exact ⟨FRow.at_ (B := _) (by repeat (first | assumption | exact Below.refl _ _ | ((with_reducible refine lit2 _ _ _ _ _ ?_); (first | (with_reducible rfl) | (simp; done))) | ((with_reducible refine lit1 _ _ _ _ ?_); (first | (with_reducible rfl) | (simp; done))) | refine frow_step (by first | assumption | exact below_alloc1 _ _ | exact below_drew1 _ | exact below_drewN0 _ _) ?_ | refine row_step (by first | assumption | exact below_alloc1 _ _ | exact below_drew1 _ | exact below_drewN0 _ _) ?_ | refine block_below (by first | assumption | exact below_alloc1 _ _ | exact below_drew1 _ | exact below_drewN0 _ _) ?_ | refine below_then ?_ (by first | assumption | exact below_alloc1 _ _ | exact below_drew1 _ | exact below_drewN0 _ _))) HY.out.1, Row.at_ (B := _) (by repeat (first | assumption | exact Below.refl _ _ | ((with_reducible refine lit2 _ _ _ _ _ ?_); (first | (with_reducible rfl) | (simp; done))) | ((with_reducible refine lit1 _ _ _ _ ?_); (first | (with_reducible rfl) | (simp; done))) | refine row_step (by first | assumption | exact below_alloc1 _ _ | exact below_drew1 _ | exact below_drewN0 _ _) ?_ | refine block_below (by first | assumption | exact below_alloc1 _ _ | exact below_drew1 _ | exact below_drewN0 _ _) ?_ | refine below_then ?_ (by first | assumption | exact below_alloc1 _ _ | exact below_drew1 _ | exact below_drewN0 _ _))) HY.out.2.2.1⟩)
        (first | (go_at_call 24; refine (rank6_at f hfok p HY.out.2.1 _).mono ?_; rintro e w6 ⟨A6, c6, rfl, hr6, hc6, hB6⟩))
      have hBw : Below wr.heap.size wr w6 := by clear hB; repeat (first | assumption | exact Below.refl _ _ | ((with_reducible refine lit2 _ _ _ _ _ ?_); (first | (with_reducible rfl) | (simp; done))) | ((with_reducible refine lit1 _ _ _ _ ?_); (first | (with_reducible rfl) | (simp; done))) | refine row_step (by first | assumption | exact below_alloc1 _ _ | exact below_drew1 _ | exact below_drewN0 _ _) ?_ | refine block_below (by first | assumption | exact below_alloc1 _ _ | exact below_drew1 _ | exact below_drewN0 _ _) ?_ | refine below_then ?_ (by first | assumption | exact below_alloc1 _ _ | exact below_drew1 _ | exact below_drewN0 _ _))
      have hB' := hB.trans (hBw.mono hsz)
      have hs6' := hB'.size
      have hr' := hr.to hBw
      have hl' := hl.to hBw
      have hw' := hw.to hBw
      clear hB hr hl hw hBw hB6 hf0 hf1 hf2 hf3 hf4 hxc
      by_cases hW0 : rankF f = W
      · obtain rfl : x = -1 := by rw [HY.out.2.2.2.1, hW0]; exact lostOf_self W
        have HW := Lib.hid hW0
        clear hW0
        go_wp2_with (go_at_call 16; refine (ints_q (rankF f) W p q HY.out.2.1 HG.out.2.2.2.1 A6 A5 c6 c5 w6 hr6 hw' (by unfold maxLen; omega) (by unfold maxLen; omega) true (by rw [HW.out]; simp [sameB])).mono ?_; rintro e w7 ⟨rfl, hB7⟩)
        exact ⟨⟨k + 1, by omega, by go_num, hB'.trans (hB7.mono (by omega)), hr'.to hB7, hl'.to hB7, hw'.to hB7⟩, by simp [intOf]; omega⟩
      · obtain ⟨d, hlt1, hlt2, hlt3⟩ : lessR W (rankF f) := by
          rcases HY.out.2.2.2.2 with e | e
          · exact absurd e hW0
          · exact e
        obtain rfl : x = (d : Int) := by rw [HY.out.2.2.2.1]; exact lostOf_at ⟨hlt1, hlt2, hlt3⟩
        have hdp : d < p := by rw [← HY.out.2.1]; exact (List.getElem?_eq_some_iff.1 hlt3).1
        have hdq : d < q := by rw [← HG.out.2.2.2.1]; exact (List.getElem?_eq_some_iff.1 hlt2).1
        have e1 : ((d : Int) == -1) = false := by simp
        have e2 : decide ((d : Int) < 0) = false := by simp
        have e3 : decide ((p : Int) ≤ (d : Int)) = false := by simp; omega
        have e3' : decide (p ≤ d) = false := by simp; omega
        have e4 : decide ((q : Int) ≤ (d : Int)) = false := by simp; omega
        have e4' : decide (q ≤ d) = false := by simp; omega
        have hdc6 : d ≤ c6 := by omega
        have hdc5 : d ≤ c5 := by omega
        obtain ⟨a6, rfl⟩ := hr6.some_ (by rw [HY.out.2.1]; omega)
        obtain ⟨a5, rfl⟩ := hw'.some_ (by rw [HG.out.2.2.2.1]; omega)
        have hc6' := hr6.at_ hlt3
        have hc5' := hw'.at_ hlt2
        have hs6 := sub_front hr6 (d := d) (by rw [HY.out.2.1]; omega)
        have hs5 := sub_front hw' (d := d) (by rw [HG.out.2.2.2.1]; omega)
        have HT := Lib.hid (And.intro hlt1 (And.intro (show ((rankF f).take d).length = d by rw [List.length_take, HY.out.2.1]; omega) (And.intro (show (W.take d).length = d by rw [List.length_take, HG.out.2.2.2.1]; omega) (And.intro hlt2 hlt3))))
        clear hW0 hlt1 hlt2 hlt3
        go_wp2_with fail
        go_region_held3 (fun W => W.cell? (a6.add d) = some (.int .i64 1) ∧ W.cell? (a5.add d) = some (.int .i64 0))
          (exact ⟨Row.at_ (B := _) (by repeat (first | assumption | exact Below.refl _ _ | ((with_reducible refine lit2 _ _ _ _ _ ?_); (first | (with_reducible rfl) | (simp; done))) | ((with_reducible refine lit1 _ _ _ _ ?_); (first | (with_reducible rfl) | (simp; done))) | refine row_step (by first | assumption | exact below_alloc1 _ _ | exact below_drew1 _ | exact below_drewN0 _ _) ?_ | refine block_below (by first | assumption | exact below_alloc1 _ _ | exact below_drew1 _ | exact below_drewN0 _ _) ?_ | refine below_then ?_ (by first | assumption | exact below_alloc1 _ _ | exact below_drew1 _ | exact below_drewN0 _ _))) HT.out.2.2.2.2, Row.at_ (B := _) (by repeat (first | assumption | exact Below.refl _ _ | ((with_reducible refine lit2 _ _ _ _ _ ?_); (first | (with_reducible rfl) | (simp; done))) | ((with_reducible refine lit1 _ _ _ _ ?_); (first | (with_reducible rfl) | (simp; done))) | refine row_step (by first | assumption | exact below_alloc1 _ _ | exact below_drew1 _ | exact below_drewN0 _ _) ?_ | refine block_below (by first | assumption | exact below_alloc1 _ _ | exact below_drew1 _ | exact below_drewN0 _ _) ?_ | refine below_then ?_ (by first | assumption | exact below_alloc1 _ _ | exact below_drew1 _ | exact below_drewN0 _ _))) HT.out.2.2.2.1⟩)
          (first | (go_at_call 16; refine (ints_q ((rankF f).take d) (W.take d) d d HT.out.2.1 HT.out.2.2.1 (some a6) (some a5) _ _ _ (by repeat (first | assumption | exact Below.refl _ _ | ((with_reducible refine lit2 _ _ _ _ _ ?_); (first | (with_reducible rfl) | (simp; done))) | ((with_reducible refine lit1 _ _ _ _ ?_); (first | (with_reducible rfl) | (simp; done))) | refine row_step (by first | assumption | exact below_alloc1 _ _ | exact below_drew1 _ | exact below_drewN0 _ _) ?_ | refine block_below (by first | assumption | exact below_alloc1 _ _ | exact below_drew1 _ | exact below_drewN0 _ _) ?_ | refine below_then ?_ (by first | assumption | exact below_alloc1 _ _ | exact below_drew1 _ | exact below_drewN0 _ _))) (by repeat (first | assumption | exact Below.refl _ _ | ((with_reducible refine lit2 _ _ _ _ _ ?_); (first | (with_reducible rfl) | (simp; done))) | ((with_reducible refine lit1 _ _ _ _ ?_); (first | (with_reducible rfl) | (simp; done))) | refine row_step (by first | assumption | exact below_alloc1 _ _ | exact below_drew1 _ | exact below_drewN0 _ _) ?_ | refine block_below (by first | assumption | exact below_alloc1 _ _ | exact below_drew1 _ | exact below_drewN0 _ _) ?_ | refine below_then ?_ (by first | assumption | exact below_alloc1 _ _ | exact below_drew1 _ | exact below_drewN0 _ _))) (by unfold maxLen; omega) (by unfold maxLen; omega) true (by rw [HT.out.1]; simp [sameB])).mono ?_; rintro e w7 ⟨rfl, hB7⟩))
        all_goals
          have hBw : Below w6.heap.size w6 w7 := by clear hB'; repeat (first | assumption | exact Below.refl _ _ | ((with_reducible refine lit2 _ _ _ _ _ ?_); (first | (with_reducible rfl) | (simp; done))) | ((with_reducible refine lit1 _ _ _ _ ?_); (first | (with_reducible rfl) | (simp; done))) | refine row_step (by first | assumption | exact below_alloc1 _ _ | exact below_drew1 _ | exact below_drewN0 _ _) ?_ | refine block_below (by first | assumption | exact below_alloc1 _ _ | exact below_drew1 _ | exact below_drewN0 _ _) ?_ | refine below_then ?_ (by first | assumption | exact below_alloc1 _ _ | exact below_drew1 _ | exact below_drewN0 _ _))
          go_wp2_with fail
          exact ⟨⟨k + 1, by omega, by go_num, hB'.trans (hBw.mono (by have := hB'.size; omega)), hr'.to hBw, hl'.to hBw, hw'.to hBw⟩, by simp [intOf]; omega⟩
    · obtain rfl : k = n := by omega
      go_wp2
      go_ret
      exact ⟨rfl, hB⟩

end Go.Proofs.Ytfmlnfblfhmapaa
