/-
  ArbLeast.
-/
import Derived.Test.YtfmlnfblfhmapaaArbX
import Derived.Test.YtfmlnfblfhmapaaHead6
import Derived.Test.YtfmlnfblfhmapaaAny
namespace Go.Proofs.Ytfmlnfblfhmapaa
open Go.RowKit
set_option linter.unusedVariables false
set_option linter.unusedSimpArgs false

theorem row_cell {κ : IntKind} {w : World} {B : Nat} {ad : Addr} {l : List Int} (h : Row κ w B (some ad) l) {k : Nat} {x : Int} (hx : l[k]? = some x) : w.cell? (ad.add k) = some (.int κ x) := h.at_ hx

set_option maxRecDepth 100000 in
set_option maxHeartbeats 4000000 in
theorem arbLeast_any (fs : List FV) (n0 : Nat) (hn : fs.length = n0) (A : Option Addr) (c : Nat) (w : World) (h : FRow w w.heap.size A fs) (hd : ∀ f ∈ fs, FData w f) (hm : n0 ≤ maxLen) :
    Calls Try.prog 4 #[.slice A n0 c] w fun e w' => e = .returned (.bool true) ∧ Below w.heap.size w w' := by
  go_enter Try.func4, Try.ntmps4
  go_wp2_with fail
  refine (head6_any w).mono ?_
  rintro e w1 ⟨rfl, hB1⟩
  have h1 := h.to hB1
  have hd1 : ∀ f ∈ fs, FData w1 f := fun f hf => (hd f hf).to hB1
  clear h hd
  go_wp2_with fail
  refine (frames_any 10 (by omega) fs n0 hn A c w1 h1 hd1 hm).mono ?_
  rintro e w2 ⟨A2, n, c2, gs, rfl, hl2, hn8, hnc2, hok, hown2, hB2⟩
  have hT2 := below_then hB1 hB2
  have hr2 := FRow.own hown2
  obtain ⟨W, q, hW, hWq, hq⟩ := least_fs gs hok
  obtain ⟨z, hz⟩ : ∃ z, winOf W (ranks gs) = z := ⟨_, rfl⟩
  obtain ⟨ls, hls⟩ : ∃ ls, (ranks gs).map (lostOf W) = ls := ⟨_, rfl⟩
  have hlsn : ls.length = n := by rw [← hls]; simp [ranks, hl2]
  have HG := Lib.hid (And.intro hl2 (And.intro hok (And.intro hW (And.intro hWq (And.intro hz (And.intro hls hlsn))))))
  clear hl2 hok hown2 hB1 hB2 h1 hd1 hn hm hW hWq hz hls hlsn
  go_wp2_with fail
  refine (win_any gs n HG.out.1 A2 c2 w2 hr2 HG.out.2.1 (by omega) W HG.out.2.2.1 q HG.out.2.2.2.1 hq z HG.out.2.2.2.2.1).mono ?_
  rintro e w3 ⟨rfl, hB3⟩
  have hr3 := hr2.to hB3
  have hT3 := below_then hT2 hB3
  clear hr2 hT2 hB3
  by_cases hn0 : n = 0
  · subst hn0
    obtain rfl : z = -1 := by
      rw [← HG.out.2.2.2.2.1, List.eq_nil_of_length_eq_zero HG.out.1]; rfl
    go_wp2_with fail
    go_ret
    exact ⟨rfl, hT3⟩
  · have hdn : ((n : Int) == 0) = false := by simp; omega
    obtain ⟨b, g, hbl, hg, hgW, hwin, hfirst⟩ := winner HG.out.2.2.1 (by rw [HG.out.1]; omega)
    have hbn : b < n := by rw [← HG.out.1]; exact hbl
    obtain rfl : (b : Int) = z := by rw [← hwin, HG.out.2.2.2.2.1]
    have hgok := HG.out.2.1 g (List.mem_of_getElem? hg)
    have hdb : decide ((b : Int) < 0) = false := by simp
    have hdb2 : decide ((n : Int) ≤ (b : Int)) = false := by simp; omega
    have hdb3 : decide (n ≤ b) = false := by simp; omega
    have HX := Lib.hid (And.intro hg (And.intro hgW (And.intro hfirst (show (rankF g).length = q by rw [hgW]; exact HG.out.2.2.2.1))))
    clear hbl hg hgW hwin hfirst
    go_wp2_with fail
    go_loopw [5] (fun i wr => ∃ k : Nat, k ≤ n ∧ i = .int .i64 k ∧ Below w.heap.size w wr ∧ FRow wr wr.heap.size A2 gs) (fun i _ => n - (intOf i).toNat)
    case atStart => exact ⟨0, Nat.zero_le _, rfl, hT3, hr3⟩
    case round =>
      clear hT3 hr3
      obtain ⟨k, hk, rfl, hB, hr⟩ := hrel
      have hsz := hB.size
      by_cases hlt : k < n
      · obtain ⟨ad, f, rfl, hf, hf0, hf1, hf2, hf3, hf4⟩ := hr.get_ (k := k) (by rw [HG.out.1]; exact hlt)
        obtain ⟨hg0, hg1, hg2, hg3, hg4⟩ := hr.at_ HX.out.1
        have hfok := HG.out.2.1 f (List.mem_of_getElem? hf)
        obtain ⟨p, hp⟩ : ∃ p, (rankF f).length = p := ⟨_, rfl⟩
        have hp32 : p ≤ 32 := by rw [← hp]; exact rankF_le f
        have hno : lessB (rankF f) (rankF g) = false := by rw [HX.out.2.1]; exact ahead_no HG.out.2.2.1 (List.mem_of_getElem? hf)
        by_cases hkb : k < b
        · have hkb' : decide ((k : Int) < (b : Int)) = true := by simp; omega
          have hne : sameB (rankF f) (rankF g) = false := by
            simp only [sameB, decide_eq_false_iff_not]
            rw [HX.out.2.1]
            exact HX.out.2.2.1 k f hkb hf
          have HY := Lib.hid (And.intro hf (And.intro hp (And.intro hno hne)))
          clear hf hp hno hne
          go_wp2_with fail
          go_region_held3 (fun W => FCells W (ad.add (k * 5)) f ∧ FCells W (ad.add (b * 5)) g)
            (exact ⟨FRow.at_ (B := _) (by repeat (first | assumption | exact Below.refl _ _ | ((with_reducible refine lit2 _ _ _ _ _ ?_); (first | (with_reducible rfl) | (simp; done))) | ((with_reducible refine lit1 _ _ _ _ ?_); (first | (with_reducible rfl) | (simp; done))) | refine frow_step (by first | assumption | exact below_alloc1 _ _ | exact below_drew1 _ | exact below_drewN0 _ _) ?_ | refine row_step (by first | assumption | exact below_alloc1 _ _ | exact below_drew1 _ | exact below_drewN0 _ _) ?_ | refine block_below (by first | assumption | exact below_alloc1 _ _ | exact below_drew1 _ | exact below_drewN0 _ _) ?_ | refine below_then ?_ (by first | assumption | exact below_alloc1 _ _ | exact below_drew1 _ | exact below_drewN0 _ _))) HY.out.1, FRow.at_ (B := _) (by repeat (first | assumption | exact Below.refl _ _ | ((with_reducible refine lit2 _ _ _ _ _ ?_); (first | (with_reducible rfl) | (simp; done))) | ((with_reducible refine lit1 _ _ _ _ ?_); (first | (with_reducible rfl) | (simp; done))) | refine frow_step (by first | assumption | exact below_alloc1 _ _ | exact below_drew1 _ | exact below_drewN0 _ _) ?_ | refine row_step (by first | assumption | exact below_alloc1 _ _ | exact below_drew1 _ | exact below_drewN0 _ _) ?_ | refine block_below (by first | assumption | exact below_alloc1 _ _ | exact below_drew1 _ | exact below_drewN0 _ _) ?_ | refine below_then ?_ (by first | assumption | exact below_alloc1 _ _ | exact below_drew1 _ | exact below_drewN0 _ _))) HX.out.1⟩)
            (first
              | (go_at_call 16; refine (ints_q (rankF f) (rankF g) p q HY.out.2.1 HX.out.2.2.2 A8 A9 c8 c9 _ (by repeat (first | assumption | exact Below.refl _ _ | ((with_reducible refine lit2 _ _ _ _ _ ?_); (first | (with_reducible rfl) | (simp; done))) | ((with_reducible refine lit1 _ _ _ _ ?_); (first | (with_reducible rfl) | (simp; done))) | refine row_step (by first | assumption | exact below_alloc1 _ _ | exact below_drew1 _ | exact below_drewN0 _ _) ?_ | refine block_below (by first | assumption | exact below_alloc1 _ _ | exact below_drew1 _ | exact below_drewN0 _ _) ?_ | refine below_then ?_ (by first | assumption | exact below_alloc1 _ _ | exact below_drew1 _ | exact below_drewN0 _ _))) (by repeat (first | assumption | exact Below.refl _ _ | ((with_reducible refine lit2 _ _ _ _ _ ?_); (first | (with_reducible rfl) | (simp; done))) | ((with_reducible refine lit1 _ _ _ _ ?_); (first | (with_reducible rfl) | (simp; done))) | refine row_step (by first | assumption | exact below_alloc1 _ _ | exact below_drew1 _ | exact below_drewN0 _ _) ?_ | refine block_below (by first | assumption | exact below_alloc1 _ _ | exact below_drew1 _ | exact below_drewN0 _ _) ?_ | refine below_then ?_ (by first | assumption | exact below_alloc1 _ _ | exact below_drew1 _ | exact below_drewN0 _ _))) (by unfold maxLen; omega) (by unfold maxLen; omega) false HY.out.2.2.2).mono ?_; rintro e w10 ⟨rfl, hB10⟩)
              | (have hq_ := hB7; clear hq_; go_at_call_of 24 (Value.agg #[.bool f.x, .int .i64 f.i, .bool f.r, .int .i64 f.n, .slice f.a f.m f.c]); refine (rank6_at f hfok p HY.out.2.1 _).mono ?_; rintro e w8 ⟨A8, c8, rfl, hr8, hc8, hB8⟩)
              | (have hq_ := hB7; clear hq_; go_at_call_of 24 (Value.agg #[.bool g.x, .int .i64 g.i, .bool g.r, .int .i64 g.n, .slice g.a g.m g.c]); refine (rank6_at g hgok q HX.out.2.2.2 _).mono ?_; rintro e w9 ⟨A9, c9, rfl, hr9, hc9, hB9⟩)
              | (go_at_call 23; refine (lessGo_any (rankF f) (rankF g) p q HY.out.2.1 HX.out.2.2.2 A5 A6 c5 c6 _ (by repeat (first | assumption | exact Below.refl _ _ | ((with_reducible refine lit2 _ _ _ _ _ ?_); (first | (with_reducible rfl) | (simp; done))) | ((with_reducible refine lit1 _ _ _ _ ?_); (first | (with_reducible rfl) | (simp; done))) | refine row_step (by first | assumption | exact below_alloc1 _ _ | exact below_drew1 _ | exact below_drewN0 _ _) ?_ | refine block_below (by first | assumption | exact below_alloc1 _ _ | exact below_drew1 _ | exact below_drewN0 _ _) ?_ | refine below_then ?_ (by first | assumption | exact below_alloc1 _ _ | exact below_drew1 _ | exact below_drewN0 _ _))) (by repeat (first | assumption | exact Below.refl _ _ | ((with_reducible refine lit2 _ _ _ _ _ ?_); (first | (with_reducible rfl) | (simp; done))) | ((with_reducible refine lit1 _ _ _ _ ?_); (first | (with_reducible rfl) | (simp; done))) | refine row_step (by first | assumption | exact below_alloc1 _ _ | exact below_drew1 _ | exact below_drewN0 _ _) ?_ | refine block_below (by first | assumption | exact below_alloc1 _ _ | exact below_drew1 _ | exact below_drewN0 _ _) ?_ | refine below_then ?_ (by first | assumption | exact below_alloc1 _ _ | exact below_drew1 _ | exact below_drewN0 _ _))) (by omega) (by omega) false HY.out.2.2.1).mono ?_; rintro e w7 ⟨rfl, hB7⟩)
              | (go_at_call_of 24 (Value.agg #[.bool f.x, .int .i64 f.i, .bool f.r, .int .i64 f.n, .slice f.a f.m f.c]); refine (rank6_at f hfok p HY.out.2.1 _).mono ?_; rintro e w5 ⟨A5, c5, rfl, hr5, hc5, hB5⟩)
              | (go_at_call_of 24 (Value.agg #[.bool g.x, .int .i64 g.i, .bool g.r, .int .i64 g.n, .slice g.a g.m g.c]); refine (rank6_at g hgok q HX.out.2.2.2 _).mono ?_; rintro e w6 ⟨A6, c6, rfl, hr6, hc6, hB6⟩))
          all_goals
            have hBw : Below wr.heap.size wr w10 := by clear hB; repeat (first | assumption | exact Below.refl _ _ | ((with_reducible refine lit2 _ _ _ _ _ ?_); (first | (with_reducible rfl) | (simp; done))) | ((with_reducible refine lit1 _ _ _ _ ?_); (first | (with_reducible rfl) | (simp; done))) | refine row_step (by first | assumption | exact below_alloc1 _ _ | exact below_drew1 _ | exact below_drewN0 _ _) ?_ | refine block_below (by first | assumption | exact below_alloc1 _ _ | exact below_drew1 _ | exact below_drewN0 _ _) ?_ | refine below_then ?_ (by first | assumption | exact below_alloc1 _ _ | exact below_drew1 _ | exact below_drewN0 _ _))
            go_wp2_with fail
            exact ⟨⟨k + 1, by omega, by go_num, hB.trans (hBw.mono hsz), hr.to hBw⟩, by simp [intOf]; omega⟩
        · have hkb' : decide ((k : Int) < (b : Int)) = false := by simp; omega
          have HY := Lib.hid (And.intro hf (And.intro hp hno))
          clear hf hp hno
          go_wp2_with fail
          --begin
          refine wp_region_held_drew (S := fun W => FCells W (ad.add (k * 5)) f ∧ FCells W (ad.add (b * 5)) g) (by kernel_rfl) (by exact ⟨FRow.at_ (B := _) (by repeat (first | assumption | exact Below.refl _ _ | ((with_reducible refine lit2 _ _ _ _ _ ?_); (first | (with_reducible rfl) | (simp; done))) | ((with_reducible refine lit1 _ _ _ _ ?_); (first | (with_reducible rfl) | (simp; done))) | refine frow_step (by first | assumption | exact below_alloc1 _ _ | exact below_drew1 _ | exact below_drewN0 _ _) ?_ | refine row_step (by first | assumption | exact below_alloc1 _ _ | exact below_drew1 _ | exact below_drewN0 _ _) ?_ | refine block_below (by first | assumption | exact below_alloc1 _ _ | exact below_drew1 _ | exact below_drewN0 _ _) ?_ | refine below_then ?_ (by first | assumption | exact below_alloc1 _ _ | exact below_drew1 _ | exact below_drewN0 _ _))) HY.out.1, FRow.at_ (B := _) (by repeat (first | assumption | exact Below.refl _ _ | ((with_reducible refine lit2 _ _ _ _ _ ?_); (first | (with_reducible rfl) | (simp; done))) | ((with_reducible refine lit1 _ _ _ _ ?_); (first | (with_reducible rfl) | (simp; done))) | refine frow_step (by first | assumption | exact below_alloc1 _ _ | exact below_drew1 _ | exact below_drewN0 _ _) ?_ | refine row_step (by first | assumption | exact below_alloc1 _ _ | exact below_drew1 _ | exact below_drewN0 _ _) ?_ | refine block_below (by first | assumption | exact below_alloc1 _ _ | exact below_drew1 _ | exact below_drewN0 _ _) ?_ | refine below_then ?_ (by first | assumption | exact below_alloc1 _ _ | exact below_drew1 _ | exact below_drewN0 _ _))) HX.out.1⟩) (fun hHeld_ => ?_)
          refine wpAnyH_take' (i := 0) (v := ?v0_) 34 rfl rfl (by kernel_rfl) (by kernel_rfl) (by kernel_rfl) (fun _ _ _ h => h) (Or.inl ⟨by kernel_rfl, ?hy0_⟩) (by assumption) ?rest0_
          case hy0_ => (intro W_ hS_; (try dsimp only at hS_); go_simp; (try (with_reducible rfl)))
          try simp only [Act.put, List.setIfInBounds_toArray, List.set_cons_zero, List.set_cons_succ]
          refine wpAnyH_take' (i := 1) (v := ?v1_) 35 rfl rfl (by kernel_rfl) (by kernel_rfl) (by kernel_rfl) (fun _ _ _ h => h) (Or.inl ⟨by kernel_rfl, ?hy1_⟩) (by assumption) ?rest1_
          case hy1_ => (intro W_ hS_; (try dsimp only at hS_); go_simp; (try (with_reducible rfl)))
          try simp only [Act.put, List.setIfInBounds_toArray, List.set_cons_zero, List.set_cons_succ]
          refine wpAnyH_take' (i := 2) (v := ?v2_) 36 rfl rfl (by kernel_rfl) (by kernel_rfl) (by kernel_rfl) (fun _ _ _ h => h) (Or.inl ⟨by kernel_rfl, ?hy2_⟩) (by assumption) ?rest2_
          case hy2_ => (intro W_ hS_; (try dsimp only at hS_); go_simp; (try (with_reducible rfl)))
          try simp only [Act.put, List.setIfInBounds_toArray, List.set_cons_zero, List.set_cons_succ]
          refine wpAnyH_take' (i := 3) (v := ?v3_) 37 rfl rfl (by kernel_rfl) (by kernel_rfl) (by kernel_rfl) (fun _ _ _ h => h) (Or.inl ⟨by kernel_rfl, ?hy3_⟩) (by assumption) ?rest3_
          case hy3_ => (intro W_ hS_; (try dsimp only at hS_); go_simp; (try (with_reducible rfl)))
          try simp only [Act.put, List.setIfInBounds_toArray, List.set_cons_zero, List.set_cons_succ]
          refine wpAnyH_take' (i := 5) (v := ?v5_) 39 rfl rfl (by kernel_rfl) (by kernel_rfl) (by kernel_rfl) (fun _ _ _ h => h) (Or.inl ⟨by kernel_rfl, ?hy5_⟩) (by assumption) ?rest5_
          case hy5_ => (intro W_ hS_; (try dsimp only at hS_); go_simp; (try (with_reducible rfl)))
          try simp only [Act.put, List.setIfInBounds_toArray, List.set_cons_zero, List.set_cons_succ]
          refine wpAnyH_take' (i := 6) (v := ?v6_) 40 rfl rfl (by kernel_rfl) (by kernel_rfl) (by kernel_rfl) (fun _ _ _ h => h) (Or.inl ⟨by kernel_rfl, ?hy6_⟩) (by assumption) ?rest6_
          case hy6_ => (intro W_ hS_; (try dsimp only at hS_); go_simp; (try (with_reducible rfl)))
          try simp only [Act.put, List.setIfInBounds_toArray, List.set_cons_zero, List.set_cons_succ]
          refine wpAnyH_take' (i := 7) (v := ?v7_) 41 rfl rfl (by kernel_rfl) (by kernel_rfl) (by kernel_rfl) (fun _ _ _ h => h) (Or.inl ⟨by kernel_rfl, ?hy7_⟩) (by assumption) ?rest7_
          case hy7_ => (intro W_ hS_; (try dsimp only at hS_); go_simp; (try (with_reducible rfl)))
          try simp only [Act.put, List.setIfInBounds_toArray, List.set_cons_zero, List.set_cons_succ]
          refine wpAnyH_take' (i := 8) (v := ?v8_) 42 rfl rfl (by kernel_rfl) (by kernel_rfl) (by kernel_rfl) (fun _ _ _ h => h) (Or.inl ⟨by kernel_rfl, ?hy8_⟩) (by assumption) ?rest8_
          case hy8_ => (intro W_ hS_; (try dsimp only at hS_); go_simp; (try (with_reducible rfl)))
          try simp only [Act.put, List.setIfInBounds_toArray, List.set_cons_zero, List.set_cons_succ]
          refine wpAnyH_ready (rs := [4]) (by kernel_rfl) (by simp) ?_
          refine AllReadyH.cons rfl (fun K_ hK_ => ?_) AllReadyH.nil
          go_simp
          go_at_call 24; refine (rank6_at f hfok p HY.out.2.1 _).mono ?_; rintro e w5 ⟨A5, c5, rfl, hr5, hc5, hB5⟩
          go_wp2_with fail
          refine hK_.out _ _ (by exact ⟨FRow.at_ (B := _) (by repeat (first | assumption | exact Below.refl _ _ | ((with_reducible refine lit2 _ _ _ _ _ ?_); (first | (with_reducible rfl) | (simp; done))) | ((with_reducible refine lit1 _ _ _ _ ?_); (first | (with_reducible rfl) | (simp; done))) | refine frow_step (by first | assumption | exact below_alloc1 _ _ | exact below_drew1 _ | exact below_drewN0 _ _) ?_ | refine row_step (by first | assumption | exact below_alloc1 _ _ | exact below_drew1 _ | exact below_drewN0 _ _) ?_ | refine block_below (by first | assumption | exact below_alloc1 _ _ | exact below_drew1 _ | exact below_drewN0 _ _) ?_ | refine below_then ?_ (by first | assumption | exact below_alloc1 _ _ | exact below_drew1 _ | exact below_drewN0 _ _))) HY.out.1, FRow.at_ (B := _) (by repeat (first | assumption | exact Below.refl _ _ | ((with_reducible refine lit2 _ _ _ _ _ ?_); (first | (with_reducible rfl) | (simp; done))) | ((with_reducible refine lit1 _ _ _ _ ?_); (first | (with_reducible rfl) | (simp; done))) | refine frow_step (by first | assumption | exact below_alloc1 _ _ | exact below_drew1 _ | exact below_drewN0 _ _) ?_ | refine row_step (by first | assumption | exact below_alloc1 _ _ | exact below_drew1 _ | exact below_drewN0 _ _) ?_ | refine block_below (by first | assumption | exact below_alloc1 _ _ | exact below_drew1 _ | exact below_drewN0 _ _) ?_ | refine below_then ?_ (by first | assumption | exact below_alloc1 _ _ | exact below_drew1 _ | exact below_drewN0 _ _))) HX.out.1⟩) (fun hHeld_4 => ?_)
          clear hK_
          try simp only [Act.put, List.setIfInBounds_toArray, List.set_cons_zero, List.set_cons_succ]
          refine wpAnyH_ready (rs := [9]) (by kernel_rfl) (by simp) ?_
          refine AllReadyH.cons rfl (fun K_ hK_ => ?_) AllReadyH.nil
          go_simp
          go_at_call 24; refine (rank6_at g hgok q HX.out.2.2.2 _).mono ?_; rintro e w6 ⟨A6, c6, rfl, hr6, hc6, hB6⟩
          go_wp2_with fail
          refine hK_.out _ _ (by exact ⟨FRow.at_ (B := _) (by repeat (first | assumption | exact Below.refl _ _ | ((with_reducible refine lit2 _ _ _ _ _ ?_); (first | (with_reducible rfl) | (simp; done))) | ((with_reducible refine lit1 _ _ _ _ ?_); (first | (with_reducible rfl) | (simp; done))) | refine frow_step (by first | assumption | exact below_alloc1 _ _ | exact below_drew1 _ | exact below_drewN0 _ _) ?_ | refine row_step (by first | assumption | exact below_alloc1 _ _ | exact below_drew1 _ | exact below_drewN0 _ _) ?_ | refine block_below (by first | assumption | exact below_alloc1 _ _ | exact below_drew1 _ | exact below_drewN0 _ _) ?_ | refine below_then ?_ (by first | assumption | exact below_alloc1 _ _ | exact below_drew1 _ | exact below_drewN0 _ _))) HY.out.1, FRow.at_ (B := _) (by repeat (first | assumption | exact Below.refl _ _ | ((with_reducible refine lit2 _ _ _ _ _ ?_); (first | (with_reducible rfl) | (simp; done))) | ((with_reducible refine lit1 _ _ _ _ ?_); (first | (with_reducible rfl) | (simp; done))) | refine frow_step (by first | assumption | exact below_alloc1 _ _ | exact below_drew1 _ | exact below_drewN0 _ _) ?_ | refine row_step (by first | assumption | exact below_alloc1 _ _ | exact below_drew1 _ | exact below_drewN0 _ _) ?_ | refine block_below (by first | assumption | exact below_alloc1 _ _ | exact below_drew1 _ | exact below_drewN0 _ _) ?_ | refine below_then ?_ (by first | assumption | exact below_alloc1 _ _ | exact below_drew1 _ | exact below_drewN0 _ _))) HX.out.1⟩) (fun hHeld_9 => ?_)
          clear hK_
          try simp only [Act.put, List.setIfInBounds_toArray, List.set_cons_zero, List.set_cons_succ]
          refine wpAnyH_ready (rs := [10]) (by kernel_rfl) (by simp) ?_
          refine AllReadyH.cons rfl (fun K_ hK_ => ?_) AllReadyH.nil
          go_simp
          go_at_call 23; refine (lessGo_any (rankF f) (rankF g) p q HY.out.2.1 HX.out.2.2.2 A5 A6 c5 c6 _ (by repeat (first | assumption | exact Below.refl _ _ | ((with_reducible refine lit2 _ _ _ _ _ ?_); (first | (with_reducible rfl) | (simp; done))) | ((with_reducible refine lit1 _ _ _ _ ?_); (first | (with_reducible rfl) | (simp; done))) | refine row_step (by first | assumption | exact below_alloc1 _ _ | exact below_drew1 _ | exact below_drewN0 _ _) ?_ | refine block_below (by first | assumption | exact below_alloc1 _ _ | exact below_drew1 _ | exact below_drewN0 _ _) ?_ | refine below_then ?_ (by first | assumption | exact below_alloc1 _ _ | exact below_drew1 _ | exact below_drewN0 _ _))) (by repeat (first | assumption | exact Below.refl _ _ | ((with_reducible refine lit2 _ _ _ _ _ ?_); (first | (with_reducible rfl) | (simp; done))) | ((with_reducible refine lit1 _ _ _ _ ?_); (first | (with_reducible rfl) | (simp; done))) | refine row_step (by first | assumption | exact below_alloc1 _ _ | exact below_drew1 _ | exact below_drewN0 _ _) ?_ | refine block_below (by first | assumption | exact below_alloc1 _ _ | exact below_drew1 _ | exact below_drewN0 _ _) ?_ | refine below_then ?_ (by first | assumption | exact below_alloc1 _ _ | exact below_drew1 _ | exact below_drewN0 _ _))) (by omega) (by omega) false HY.out.2.2).mono ?_; rintro e w7 ⟨rfl, hB7⟩
          go_wp2_with fail
          refine hK_.out _ _ (by exact ⟨FRow.at_ (B := _) (by repeat (first | assumption | exact Below.refl _ _ | ((with_reducible refine lit2 _ _ _ _ _ ?_); (first | (with_reducible rfl) | (simp; done))) | ((with_reducible refine lit1 _ _ _ _ ?_); (first | (with_reducible rfl) | (simp; done))) | refine frow_step (by first | assumption | exact below_alloc1 _ _ | exact below_drew1 _ | exact below_drewN0 _ _) ?_ | refine row_step (by first | assumption | exact below_alloc1 _ _ | exact below_drew1 _ | exact below_drewN0 _ _) ?_ | refine block_below (by first | assumption | exact below_alloc1 _ _ | exact below_drew1 _ | exact below_drewN0 _ _) ?_ | refine below_then ?_ (by first | assumption | exact below_alloc1 _ _ | exact below_drew1 _ | exact below_drewN0 _ _))) HY.out.1, FRow.at_ (B := _) (by repeat (first | assumption | exact Below.refl _ _ | ((with_reducible refine lit2 _ _ _ _ _ ?_); (first | (with_reducible rfl) | (simp; done))) | ((with_reducible refine lit1 _ _ _ _ ?_); (first | (with_reducible rfl) | (simp; done))) | refine frow_step (by first | assumption | exact below_alloc1 _ _ | exact below_drew1 _ | exact below_drewN0 _ _) ?_ | refine row_step (by first | assumption | exact below_alloc1 _ _ | exact below_drew1 _ | exact below_drewN0 _ _) ?_ | refine block_below (by first | assumption | exact below_alloc1 _ _ | exact below_drew1 _ | exact below_drewN0 _ _) ?_ | refine below_then ?_ (by first | assumption | exact below_alloc1 _ _ | exact below_drew1 _ | exact below_drewN0 _ _))) HX.out.1⟩) (fun hHeld_10 => ?_)
          clear hK_
          try simp only [Act.put, List.setIfInBounds_toArray, List.set_cons_zero, List.set_cons_succ]
          refine wpAnyH_take' (i := 11) (v := ?v11_) 45 rfl rfl (by kernel_rfl) (by kernel_rfl) (by kernel_rfl) (fun _ _ _ h => h) (Or.inl ⟨by kernel_rfl, ?hy11_⟩) (by assumption) ?rest11_
          case hy11_ => (intro W_ hS_; (try dsimp only at hS_); go_simp; (try (with_reducible rfl)))
          try simp only [Act.put, List.setIfInBounds_toArray, List.set_cons_zero, List.set_cons_succ]
          refine wpAnyH_take' (i := 12) (v := ?v12_) 46 rfl rfl (by kernel_rfl) (by kernel_rfl) (by kernel_rfl) (fun _ _ _ h => h) (Or.inl ⟨by kernel_rfl, ?hy12_⟩) (by assumption) ?rest12_
          case hy12_ => (intro W_ hS_; (try dsimp only at hS_); go_simp; (try (with_reducible rfl)))
          try simp only [Act.put, List.setIfInBounds_toArray, List.set_cons_zero, List.set_cons_succ]
          refine wpAnyH_take' (i := 13) (v := ?v13_) 47 rfl rfl (by kernel_rfl) (by kernel_rfl) (by kernel_rfl) (fun _ _ _ h => h) (Or.inl ⟨by kernel_rfl, ?hy13_⟩) (by assumption) ?rest13_
          case hy13_ => (intro W_ hS_; (try dsimp only at hS_); go_simp; (try (with_reducible rfl)))
          try simp only [Act.put, List.setIfInBounds_toArray, List.set_cons_zero, List.set_cons_succ]
          refine wpAnyH_take' (i := 14) (v := ?v14_) 48 rfl rfl (by kernel_rfl) (by kernel_rfl) (by kernel_rfl) (fun _ _ _ h => h) (Or.inl ⟨by kernel_rfl, ?hy14_⟩) (by assumption) ?rest14_
          case hy14_ => (intro W_ hS_; (try dsimp only at hS_); go_simp; (try (with_reducible rfl)))
          try simp only [Act.put, List.setIfInBounds_toArray, List.set_cons_zero, List.set_cons_succ]
          refine wpAnyH_take' (i := 15) (v := ?v15_) 49 rfl rfl (by kernel_rfl) (by kernel_rfl) (by kernel_rfl) (fun _ _ _ h => h) (Or.inl ⟨by kernel_rfl, ?hy15_⟩) (by assumption) ?rest15_
          case hy15_ => (intro W_ hS_; (try dsimp only at hS_); go_simp; (try (with_reducible rfl)))
          try simp only [Act.put, List.setIfInBounds_toArray, List.set_cons_zero, List.set_cons_succ]
          refine wpAnyH_take' (i := 16) (v := undef) 50 rfl rfl (by kernel_rfl) (by kernel_rfl) (by kernel_rfl) (fun _ _ _ h => h) (Or.inr ⟨by kernel_rfl, rfl⟩) (by assumption) ?_
          try simp only [Act.put, List.setIfInBounds_toArray, List.set_cons_zero, List.set_cons_succ]
          refine wpAnyH_take' (i := 17) (v := undef) 51 rfl rfl (by kernel_rfl) (by kernel_rfl) (by kernel_rfl) (fun _ _ _ h => h) (Or.inr ⟨by kernel_rfl, rfl⟩) (by assumption) ?_
          try simp only [Act.put, List.setIfInBounds_toArray, List.set_cons_zero, List.set_cons_succ]
          refine wpAnyH_take' (i := 18) (v := undef) 52 rfl rfl (by kernel_rfl) (by kernel_rfl) (by kernel_rfl) (fun _ _ _ h => h) (Or.inr ⟨by kernel_rfl, rfl⟩) (by assumption) ?_
          try simp only [Act.put, List.setIfInBounds_toArray, List.set_cons_zero, List.set_cons_succ]
          refine wpAnyH_take' (i := 19) (v := undef) 53 rfl rfl (by kernel_rfl) (by kernel_rfl) (by kernel_rfl) (fun _ _ _ h => h) (Or.inr ⟨by kernel_rfl, rfl⟩) (by assumption) ?_
          try simp only [Act.put, List.setIfInBounds_toArray, List.set_cons_zero, List.set_cons_succ]
          refine wpAnyH_take' (i := 21) (v := undef) 55 rfl rfl (by kernel_rfl) (by kernel_rfl) (by kernel_rfl) (fun _ _ _ h => h) (Or.inr ⟨by kernel_rfl, rfl⟩) (by assumption) ?_
          try simp only [Act.put, List.setIfInBounds_toArray, List.set_cons_zero, List.set_cons_succ]
          refine wpAnyH_take' (i := 22) (v := undef) 56 rfl rfl (by kernel_rfl) (by kernel_rfl) (by kernel_rfl) (fun _ _ _ h => h) (Or.inr ⟨by kernel_rfl, rfl⟩) (by assumption) ?_
          try simp only [Act.put, List.setIfInBounds_toArray, List.set_cons_zero, List.set_cons_succ]
          refine wpAnyH_take' (i := 23) (v := undef) 57 rfl rfl (by kernel_rfl) (by kernel_rfl) (by kernel_rfl) (fun _ _ _ h => h) (Or.inr ⟨by kernel_rfl, rfl⟩) (by assumption) ?_
          try simp only [Act.put, List.setIfInBounds_toArray, List.set_cons_zero, List.set_cons_succ]
          refine wpAnyH_take' (i := 24) (v := undef) 58 rfl rfl (by kernel_rfl) (by kernel_rfl) (by kernel_rfl) (fun _ _ _ h => h) (Or.inr ⟨by kernel_rfl, rfl⟩) (by assumption) ?_
          try simp only [Act.put, List.setIfInBounds_toArray, List.set_cons_zero, List.set_cons_succ]
          refine wpAnyH_skip (i := 20) 54 rfl rfl (by kernel_rfl) (by kernel_rfl) (by assumption) ?_
          try simp only [Act.put, List.setIfInBounds_toArray, List.set_cons_zero, List.set_cons_succ]
          refine wpAnyH_skip (i := 25) 59 rfl rfl (by kernel_rfl) (by kernel_rfl) (by assumption) ?_
          try simp only [Act.put, List.setIfInBounds_toArray, List.set_cons_zero, List.set_cons_succ]
          refine wpAnyH_skip (i := 26) 60 rfl rfl (by kernel_rfl) (by kernel_rfl) (by assumption) ?_
          try simp only [Act.put, List.setIfInBounds_toArray, List.set_cons_zero, List.set_cons_succ]
          refine wpAnyH_take' (i := 27) (v := ?v27_) 61 rfl rfl (by kernel_rfl) (by kernel_rfl) (by kernel_rfl) (fun _ _ _ h => h) (Or.inl ⟨by kernel_rfl, ?hy27_⟩) (by assumption) ?rest27_
          case hy27_ => (intro W_ hS_; (try dsimp only at hS_); go_simp; (try (with_reducible rfl)))
          try simp only [Act.put, List.setIfInBounds_toArray, List.set_cons_zero, List.set_cons_succ]
          refine wpAnyH_take' (i := 28) (v := ?v28_) 62 rfl rfl (by kernel_rfl) (by kernel_rfl) (by kernel_rfl) (fun _ _ _ h => h) (Or.inl ⟨by kernel_rfl, ?hy28_⟩) (by assumption) ?rest28_
          case hy28_ => (intro W_ hS_; (try dsimp only at hS_); go_simp; (try (with_reducible rfl)))
          try simp only [Act.put, List.setIfInBounds_toArray, List.set_cons_zero, List.set_cons_succ]
          refine wpAnyH_done (by kernel_rfl) ?_ _
          --end
          all_goals
            have hBw : Below wr.heap.size wr w7 := by clear hB; repeat (first | assumption | exact Below.refl _ _ | ((with_reducible refine lit2 _ _ _ _ _ ?_); (first | (with_reducible rfl) | (simp; done))) | ((with_reducible refine lit1 _ _ _ _ ?_); (first | (with_reducible rfl) | (simp; done))) | refine row_step (by first | assumption | exact below_alloc1 _ _ | exact below_drew1 _ | exact below_drewN0 _ _) ?_ | refine block_below (by first | assumption | exact below_alloc1 _ _ | exact below_drew1 _ | exact below_drewN0 _ _) ?_ | refine below_then ?_ (by first | assumption | exact below_alloc1 _ _ | exact below_drew1 _ | exact below_drewN0 _ _))
            go_wp2_with fail
            exact ⟨⟨k + 1, by omega, by go_num, hB.trans (hBw.mono hsz), hr.to hBw⟩, by simp [intOf]; omega⟩
      · obtain rfl : k = n := by omega
        go_wp2_with fail
        refine (lost_any gs k HG.out.1 A2 c2 wr hr HG.out.2.1 (by omega) W HG.out.2.2.1 q HG.out.2.2.2.1 hq).mono ?_
        rw [HG.out.2.2.2.2.2.1]
        rintro e w5 ⟨A5, rfl, ha5, hB5⟩
        have hr5 := hr.to hB5
        have hT5 := hB.trans (hB5.mono hsz)
        have hlb : ls[b]? = some (-1) := by
          rw [← HG.out.2.2.2.2.2.1, List.getElem?_map, ranks, List.getElem?_map, HX.out.1]
          simp [HX.out.2.1, lostOf_self]
        obtain ⟨ad, g', rfl, hg', hg0, hg1, hg2, hg3, hg4⟩ := hr5.get_ (k := b) (by rw [HG.out.1]; exact hbn)
        obtain rfl : g = g' := by rw [HX.out.1] at hg'; exact Option.some.inj hg'
        obtain ⟨al, rfl⟩ := ha5.some_ (by rw [HG.out.2.2.2.2.2.2]; omega)
        have hal := ha5.at_ hlb
        have HB := Lib.hid hlb
        clear hg' hlb hB hr hB5 hsz
        have hs5 := hT5.size
        go_wp2_with fail
        go_region_held3 (fun W => FCells W (ad.add (b * 5)) g ∧ W.cell? (al.add b) = some (.int .i64 (-1)))
          (exact ⟨FRow.at_ (B := _) (by repeat (first | assumption | exact Below.refl _ _ | ((with_reducible refine lit2 _ _ _ _ _ ?_); (first | (with_reducible rfl) | (simp; done))) | ((with_reducible refine lit1 _ _ _ _ ?_); (first | (with_reducible rfl) | (simp; done))) | refine frow_step (by first | assumption | exact below_alloc1 _ _ | exact below_drew1 _ | exact below_drewN0 _ _) ?_ | refine row_step (by first | assumption | exact below_alloc1 _ _ | exact below_drew1 _ | exact below_drewN0 _ _) ?_ | refine block_below (by first | assumption | exact below_alloc1 _ _ | exact below_drew1 _ | exact below_drewN0 _ _) ?_ | refine below_then ?_ (by first | assumption | exact below_alloc1 _ _ | exact below_drew1 _ | exact below_drewN0 _ _))) HX.out.1, Row.at_ (B := _) (by repeat (first | assumption | exact Below.refl _ _ | ((with_reducible refine lit2 _ _ _ _ _ ?_); (first | (with_reducible rfl) | (simp; done))) | ((with_reducible refine lit1 _ _ _ _ ?_); (first | (with_reducible rfl) | (simp; done))) | refine row_step (by first | assumption | exact below_alloc1 _ _ | exact below_drew1 _ | exact below_drewN0 _ _) ?_ | refine block_below (by first | assumption | exact below_alloc1 _ _ | exact below_drew1 _ | exact below_drewN0 _ _) ?_ | refine below_then ?_ (by first | assumption | exact below_alloc1 _ _ | exact below_drew1 _ | exact below_drewN0 _ _))) HB.out⟩)
          (first
            | (go_at_call 16; refine (ints_q W (rankF g) q q HG.out.2.2.2.1 HX.out.2.2.2 A6 A7 c6 c7 _ (by repeat (first | assumption | exact Below.refl _ _ | ((with_reducible refine lit2 _ _ _ _ _ ?_); (first | (with_reducible rfl) | (simp; done))) | ((with_reducible refine lit1 _ _ _ _ ?_); (first | (with_reducible rfl) | (simp; done))) | refine row_step (by first | assumption | exact below_alloc1 _ _ | exact below_drew1 _ | exact below_drewN0 _ _) ?_ | refine block_below (by first | assumption | exact below_alloc1 _ _ | exact below_drew1 _ | exact below_drewN0 _ _) ?_ | refine below_then ?_ (by first | assumption | exact below_alloc1 _ _ | exact below_drew1 _ | exact below_drewN0 _ _))) (by repeat (first | assumption | exact Below.refl _ _ | ((with_reducible refine lit2 _ _ _ _ _ ?_); (first | (with_reducible rfl) | (simp; done))) | ((with_reducible refine lit1 _ _ _ _ ?_); (first | (with_reducible rfl) | (simp; done))) | refine row_step (by first | assumption | exact below_alloc1 _ _ | exact below_drew1 _ | exact below_drewN0 _ _) ?_ | refine block_below (by first | assumption | exact below_alloc1 _ _ | exact below_drew1 _ | exact below_drewN0 _ _) ?_ | refine below_then ?_ (by first | assumption | exact below_alloc1 _ _ | exact below_drew1 _ | exact below_drewN0 _ _))) (by unfold maxLen; omega) (by unfold maxLen; omega) true (by rw [HX.out.2.1]; simp [sameB])).mono ?_; rintro e w8 ⟨rfl, hB8⟩)
            | (go_at_call 19; refine (line_any gs k HG.out.1 (some ad) c2 _ (by repeat (first | assumption | exact Below.refl _ _ | ((with_reducible refine lit2 _ _ _ _ _ ?_); (first | (with_reducible rfl) | (simp; done))) | ((with_reducible refine lit1 _ _ _ _ ?_); (first | (with_reducible rfl) | (simp; done))) | refine frow_step (by first | assumption | exact below_alloc1 _ _ | exact below_drew1 _ | exact below_drewN0 _ _) ?_ | refine row_step (by first | assumption | exact below_alloc1 _ _ | exact below_drew1 _ | exact below_drewN0 _ _) ?_ | refine block_below (by first | assumption | exact below_alloc1 _ _ | exact below_drew1 _ | exact below_drewN0 _ _) ?_ | refine below_then ?_ (by first | assumption | exact below_alloc1 _ _ | exact below_drew1 _ | exact below_drewN0 _ _))) HG.out.2.1 (by omega) W HG.out.2.2.1 q HG.out.2.2.2.1 hq).mono ?_; rintro e w6 ⟨A6, c6, rfl, hc6, hr6, hB6⟩)
            | (go_at_call 24; refine (rank6_at g hgok q HX.out.2.2.2 _).mono ?_; rintro e w7 ⟨A7, c7, rfl, hr7, hc7, hB7⟩))
        all_goals
          have hBw : Below w5.heap.size w5 w8 := by clear hT5; repeat (first | assumption | exact Below.refl _ _ | ((with_reducible refine lit2 _ _ _ _ _ ?_); (first | (with_reducible rfl) | (simp; done))) | ((with_reducible refine lit1 _ _ _ _ ?_); (first | (with_reducible rfl) | (simp; done))) | refine row_step (by first | assumption | exact below_alloc1 _ _ | exact below_drew1 _ | exact below_drewN0 _ _) ?_ | refine block_below (by first | assumption | exact below_alloc1 _ _ | exact below_drew1 _ | exact below_drewN0 _ _) ?_ | refine below_then ?_ (by first | assumption | exact below_alloc1 _ _ | exact below_drew1 _ | exact below_drewN0 _ _))
          go_wp2_with fail
          go_ret
          exact ⟨rfl, hT5.trans (hBw.mono hs5)⟩

end Go.Proofs.Ytfmlnfblfhmapaa
