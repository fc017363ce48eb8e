/-
  The document's Lost, Line, And (layer 6).
-/
import Derived.Test.YtfmlnfblfhmapaaArbW
import Derived.Test.YtfmlnfblfhmapaaTwo
namespace Go.Proofs.Ytfmlnfblfhmapaa
open Go.RowKit
set_option linter.unusedVariables false
set_option linter.unusedSimpArgs false

/-- Where the loop stands. -/
def LostAt (W r : List Int) (j : Nat) (a : Int) : Prop := (a = -1 ∧ W.take j = r.take j) ∨ ∃ d : Nat, a = d ∧ lostOf W r = d
theorem LostAt.step {W r : List Int} {j : Nat} {x y : Int} (h : W.take j = r.take j) (hx : W[j]? = some x) (hy : r[j]? = some y) (e : x = y) : LostAt W r (j + 1) (-1) :=
  .inl ⟨rfl, take_next h (by rw [hx, hy, e])⟩
theorem lost_end {W r : List Int} {j : Nat} (h : r = W ∨ lessR W r) (ht : W.take j = r.take j) (hj : W.length ≤ j ∨ r.length ≤ j) : lostOf W r = -1 := by
  rcases h with rfl | ⟨k, h1, h2, h3⟩
  · exact lostOf_self _
  · have hk1 := (List.getElem?_eq_some_iff.1 h2).1
    have hk2 := (List.getElem?_eq_some_iff.1 h3).1
    have := take_get ht (k := k) (by omega)
    rw [h2, h3] at this
    simp at this

theorem losts_snoc {fs : List FV} {W : List Int} {k : Nat} {f : FV} (hf : fs[k]? = some f) : ((ranks fs).map (lostOf W)).take (k + 1) = ((ranks fs).map (lostOf W)).take k ++ [lostOf W (rankF f)] := by
  rw [List.take_add_one]
  simp [ranks, hf]

set_option maxRecDepth 100000 in
set_option maxHeartbeats 4000000 in
theorem refLost_any (fs : List FV) (n : Nat) (hn : fs.length = n) (A : Option Addr) (c : Nat) (w : World) (h : FRow w w.heap.size A fs) (hok : ∀ f ∈ fs, FOk f) (hm : n ≤ 100) (W : List Int) (hW : LeastE W (ranks fs)) :
    Calls Try.prog 18 #[.slice A n c] w fun e w' => ∃ A' c', e = .returned (.slice A' n c') ∧ n ≤ c' ∧ Row .i64 w' w'.heap.size A' ((ranks fs).map (lostOf W)) ∧ Below w.heap.size w w' := by
  obtain ⟨i0, hi, hz0, hz1, hz2⟩ := info_parts Try.infoInt
  have HW := Lib.hid (And.intro hW (And.intro hn hok))
  clear hW hn hok
  go_enter Try.func18, Try.ntmps18
  go_wp2_with fail
  go_loopw [3, 4] (fun o i wr => ∃ (k : Nat) (A' : Option Addr) (c' : Nat), k ≤ n ∧ i = .int .i64 k ∧ o = .slice A' k c' ∧ k ≤ c' ∧ wr.ownsRow w.heap.size 3 1 (.slice A' k c') k ((((ranks fs).map (lostOf W)).take k).map (Value.int .i64)) ∧ Below w.heap.size w wr)
    (fun _ i _ => n - (intOf i).toNat)
  case atStart => exact ⟨0, _, 0, Nat.zero_le _, rfl, rfl, Nat.le_refl _, by simpa using own_empty .i64 w w.heap.size _ 3 rfl (Nat.le_refl _), (Below.refl _ _).alloc (Nat.le_refl _) _⟩
  case round =>
    obtain ⟨k, A', c', hk, rfl, rfl, hkc, hown, hB⟩ := hrel
    have hsz := hB.size
    by_cases hlt : k < n
    · have hr := h.to hB
      obtain ⟨ad, f, rfl, hf, hf0, hf1, hf2, hf3, hf4⟩ := hr.get_ (k := k) (by rw [HW.out.2.1]; exact hlt)
      obtain ⟨b, g, hbl, hg, hgW, hwin, -⟩ := winner HW.out.1 (by rw [HW.out.2.1]; omega)
      have hbn : b < n := by rw [← HW.out.2.1]; exact hbl
      obtain ⟨hg0, hg1, hg2, hg3, hg4⟩ := hr.at_ hg
      have hfok := HW.out.2.2 f (List.mem_of_getElem? hf)
      have hgok := HW.out.2.2 g (List.mem_of_getElem? hg)
      obtain ⟨p, hp⟩ : ∃ p, (rankF f).length = p := ⟨_, rfl⟩
      obtain ⟨q, hq⟩ : ∃ q, (rankF g).length = q := ⟨_, rfl⟩
      have hp32 : p ≤ 32 := by rw [← hp]; exact rankF_le f
      have hq32 : q ≤ 32 := by rw [← hq]; exact rankF_le g
      have hcmp := HW.out.1.all (rankF f) (List.mem_map.2 ⟨f, List.mem_of_getElem? hf, rfl⟩)
      have HX := Lib.hid (And.intro hf (And.intro hg (And.intro hp (And.intro hq (And.intro hgW (And.intro hwin hcmp))))))
      clear hf hg hp hq hgW hwin hbl hcmp
      go_wp2_with fail
      go_region_held3 (fun W => FCells W (ad.add (k * 5)) f ∧ FCells W (ad.add (b * 5)) g)
        (exact ⟨FRow.at_ (B := _) (by repeat (first | assumption | exact Below.refl _ _ | ((with_reducible refine lit2 _ _ _ _ _ ?_); (first | (with_reducible rfl) | (simp; done))) | ((with_reducible refine lit1 _ _ _ _ ?_); (first | (with_reducible rfl) | (simp; done))) | refine frow_step (by first | assumption | exact below_alloc1 _ _ | exact below_drew1 _ | exact below_drewN0 _ _) ?_ | refine row_step (by first | assumption | exact below_alloc1 _ _ | exact below_drew1 _ | exact below_drewN0 _ _) ?_ | refine block_below (by first | assumption | exact below_alloc1 _ _ | exact below_drew1 _ | exact below_drewN0 _ _) ?_ | refine below_then ?_ (by first | assumption | exact below_alloc1 _ _ | exact below_drew1 _ | exact below_drewN0 _ _))) HX.out.1, FRow.at_ (B := _) (by repeat (first | assumption | exact Below.refl _ _ | ((with_reducible refine lit2 _ _ _ _ _ ?_); (first | (with_reducible rfl) | (simp; done))) | ((with_reducible refine lit1 _ _ _ _ ?_); (first | (with_reducible rfl) | (simp; done))) | refine frow_step (by first | assumption | exact below_alloc1 _ _ | exact below_drew1 _ | exact below_drewN0 _ _) ?_ | refine row_step (by first | assumption | exact below_alloc1 _ _ | exact below_drew1 _ | exact below_drewN0 _ _) ?_ | refine block_below (by first | assumption | exact below_alloc1 _ _ | exact below_drew1 _ | exact below_drewN0 _ _) ?_ | refine below_then ?_ (by first | assumption | exact below_alloc1 _ _ | exact below_drew1 _ | exact below_drewN0 _ _))) HX.out.2.1⟩)
        (first
          | (go_at_call 15; refine (refWin_any fs n HW.out.2.1 (some ad) c _ (by repeat (first | assumption | exact Below.refl _ _ | ((with_reducible refine lit2 _ _ _ _ _ ?_); (first | (with_reducible rfl) | (simp; done))) | ((with_reducible refine lit1 _ _ _ _ ?_); (first | (with_reducible rfl) | (simp; done))) | refine frow_step (by first | assumption | exact below_alloc1 _ _ | exact below_drew1 _ | exact below_drewN0 _ _) ?_ | refine row_step (by first | assumption | exact below_alloc1 _ _ | exact below_drew1 _ | exact below_drewN0 _ _) ?_ | refine block_below (by first | assumption | exact below_alloc1 _ _ | exact below_drew1 _ | exact below_drewN0 _ _) ?_ | refine below_then ?_ (by first | assumption | exact below_alloc1 _ _ | exact below_drew1 _ | exact below_drewN0 _ _))) HW.out.2.2 hm W HW.out.1 (b : Int) HX.out.2.2.2.2.2.1).mono ?_; rintro e w7 ⟨rfl, hB7⟩)
          | (go_at_call_of 24 (Value.agg #[.bool f.x, .int .i64 f.i, .bool f.r, .int .i64 f.n, .slice f.a f.m f.c]); refine (rank6_at f hfok p HX.out.2.2.1 _).mono ?_; rintro e w5 ⟨A5, c5, rfl, hr5, hc5, hB5⟩)
          | (go_at_call_of 24 (Value.agg #[.bool g.x, .int .i64 g.i, .bool g.r, .int .i64 g.n, .slice g.a g.m g.c]); refine (rank6_at g hgok q HX.out.2.2.2.1 _).mono ?_; rintro e w6 ⟨A6, c6, rfl, hr6, hc6, hB6⟩))
      have hBw : Below wr.heap.size wr w5 := by clear hB; repeat (first | assumption | exact Below.refl _ _ | ((with_reducible refine lit2 _ _ _ _ _ ?_); (first | (with_reducible rfl) | (simp; done))) | ((with_reducible refine lit1 _ _ _ _ ?_); (first | (with_reducible rfl) | (simp; done))) | refine row_step (by first | assumption | exact below_alloc1 _ _ | exact below_drew1 _ | exact below_drewN0 _ _) ?_ | refine block_below (by first | assumption | exact below_alloc1 _ _ | exact below_drew1 _ | exact below_drewN0 _ _) ?_ | refine below_then ?_ (by first | assumption | exact below_alloc1 _ _ | exact below_drew1 _ | exact below_drewN0 _ _))
      have hB5' : Below w.heap.size w w5 := hB.trans (hBw.mono hsz)
      have hs5 := hB5'.size
      have hown5 := own_to hown hBw
      have rW := hr6.to hB5
      rw [HX.out.2.2.2.2.1] at rW
      have hqW : W.length = q := by rw [← HX.out.2.2.2.2.1]; exact HX.out.2.2.2.1
      obtain ⟨r, hrr⟩ : ∃ r, rankF f = r := ⟨_, rfl⟩
      rw [hrr] at hr5
      have HR := Lib.hid (And.intro hqW (And.intro (show r.length = p by rw [← hrr]; exact HX.out.2.2.1) (And.intro hrr (show r = W ∨ lessR W r by rw [← hrr]; exact HX.out.2.2.2.2.2.2))))
      clear hqW hrr hf0 hf1 hf2 hf3 hf4 hg0 hg1 hg2 hg3 hg4 hB hBw hB5 hB6 hB7 hr6 hown hr h
      go_wp2_with fail
      go_loopw [7, 8] (fun a j wq => ∃ (j' N : Nat) (a' : Int), j' ≤ q ∧ j' ≤ p ∧ j = .int .i64 j' ∧ a = .int .i64 a' ∧ LostAt W r j' a' ∧ wq = w5.drewN N)
        (fun _ j _ => q - (intOf j).toNat)
      case atStart => exact ⟨0, 0, -1, Nat.zero_le _, Nat.zero_le _, rfl, rfl, .inl ⟨rfl, by simp⟩, rfl⟩
      case round =>
        obtain ⟨j, N, a, hjq, hjp, rfl, rfl, hla, rfl⟩ := hrel
        rcases hla with ⟨rfl, htk⟩ | ⟨d, rfl, hlo⟩
        · by_cases hjq' : j < q
          · by_cases hjp' : j < p
            · obtain ⟨a1, x, rfl, hx, hcx⟩ := rW.get_ (k := j) (by rw [HR.out.1]; exact hjq')
              obtain ⟨a2, y, rfl, hy, hcy⟩ := hr5.get_ (k := j) (by rw [HR.out.2.1]; exact hjp')
              by_cases hxy : x = y
              · have hd : (x != y) = false := by simp [hxy]
                have HS := Lib.hid (LostAt.step htk hx hy hxy)
                clear hxy hx hy htk
                go_wp2
                go_quiet (fail)
                go_wp2
                exact ⟨⟨j + 1, _, -1, by omega, by omega, by go_num, rfl, HS.out, rfl⟩, by simp [intOf]; omega⟩
              · have hd : (x != y) = true := by simp [hxy]
                have HS := Lib.hid (lostOf_diff htk hx hy hxy)
                clear hxy hx hy htk
                go_wp2
                go_quiet (fail)
                go_wp2
                exact ⟨⟨j + 1, _, j, by omega, by omega, by go_num, rfl, .inr ⟨j, rfl, HS.out⟩, rfl⟩, by simp [intOf]; omega⟩
            · have HE := Lib.hid (show lostOf W (rankF f) = -1 by rw [HR.out.2.2.1]; exact lost_end HR.out.2.2.2 htk (.inr (by rw [HR.out.2.1]; omega)))
              clear htk
              go_wp2_with (at_builtin; refine wpList_append_row _ .i64 rfl _ _ 23 rfl w.heap.size 3 i0 (.int .i64 0) 8 Try.underlying23 hi hz0 hz1 hz2 rfl _ k (((ranks fs).map (lostOf W)).take k) rfl ((own_to hown5 (below_drewN0 _ _)).alloc _) (some ⟨w5.heap.size, 0, none⟩) 1 1 _ [-1] rfl rfl (Row.lit (w5.drewN N) .i64 [-1] 3 rfl) (by unfold maxLen; omega) (by omega) (by simp; omega) ?_; intro A9 c9 w9 hown9 hc9 hB9)
              exact ⟨⟨k + 1, A9, c9, by omega, by go_num, rfl, hc9, by rw [losts_snoc HX.out.1, HE.out]; exact hown9, ((below_drewN' hB5' _).alloc (by simp; omega) _).trans hB9⟩, by simp [intOf]; omega⟩
          · have HE := Lib.hid (show lostOf W (rankF f) = -1 by rw [HR.out.2.2.1]; exact lost_end HR.out.2.2.2 htk (.inl (by rw [HR.out.1]; omega)))
            clear htk
            go_wp2_with (at_builtin; refine wpList_append_row _ .i64 rfl _ _ 23 rfl w.heap.size 3 i0 (.int .i64 0) 8 Try.underlying23 hi hz0 hz1 hz2 rfl _ k (((ranks fs).map (lostOf W)).take k) rfl ((own_to hown5 (below_drewN0 _ _)).alloc _) (some ⟨w5.heap.size, 0, none⟩) 1 1 _ [-1] rfl rfl (Row.lit (w5.drewN N) .i64 [-1] 3 rfl) (by unfold maxLen; omega) (by omega) (by simp; omega) ?_; intro A9 c9 w9 hown9 hc9 hB9)
            exact ⟨⟨k + 1, A9, c9, by omega, by go_num, rfl, hc9, by rw [losts_snoc HX.out.1, HE.out]; exact hown9, ((below_drewN' hB5' _).alloc (by simp; omega) _).trans hB9⟩, by simp [intOf]; omega⟩
        · have HE := Lib.hid (show lostOf W (rankF f) = (d : Int) by rw [HR.out.2.2.1]; exact hlo)
          have hd0 : decide ((d : Int) < 0) = false := by simp
          clear hlo
          by_cases hjq' : j < q
          · by_cases hjp' : j < p
            · go_wp2_with (at_builtin; refine wpList_append_row _ .i64 rfl _ _ 23 rfl w.heap.size 3 i0 (.int .i64 0) 8 Try.underlying23 hi hz0 hz1 hz2 rfl _ k (((ranks fs).map (lostOf W)).take k) rfl ((own_to hown5 (below_drewN0 _ _)).alloc _) (some ⟨w5.heap.size, 0, none⟩) 1 1 _ [(d : Int)] rfl rfl (Row.lit (w5.drewN N) .i64 [(d : Int)] 3 rfl) (by unfold maxLen; omega) (by omega) (by simp; omega) ?_; intro A9 c9 w9 hown9 hc9 hB9)
              exact ⟨⟨k + 1, A9, c9, by omega, by go_num, rfl, hc9, by rw [losts_snoc HX.out.1, HE.out]; exact hown9, ((below_drewN' hB5' _).alloc (by simp; omega) _).trans hB9⟩, by simp [intOf]; omega⟩
            · go_wp2_with (at_builtin; refine wpList_append_row _ .i64 rfl _ _ 23 rfl w.heap.size 3 i0 (.int .i64 0) 8 Try.underlying23 hi hz0 hz1 hz2 rfl _ k (((ranks fs).map (lostOf W)).take k) rfl ((own_to hown5 (below_drewN0 _ _)).alloc _) (some ⟨w5.heap.size, 0, none⟩) 1 1 _ [(d : Int)] rfl rfl (Row.lit (w5.drewN N) .i64 [(d : Int)] 3 rfl) (by unfold maxLen; omega) (by omega) (by simp; omega) ?_; intro A9 c9 w9 hown9 hc9 hB9)
              exact ⟨⟨k + 1, A9, c9, by omega, by go_num, rfl, hc9, by rw [losts_snoc HX.out.1, HE.out]; exact hown9, ((below_drewN' hB5' _).alloc (by simp; omega) _).trans hB9⟩, by simp [intOf]; omega⟩
          · go_wp2_with (at_builtin; refine wpList_append_row _ .i64 rfl _ _ 23 rfl w.heap.size 3 i0 (.int .i64 0) 8 Try.underlying23 hi hz0 hz1 hz2 rfl _ k (((ranks fs).map (lostOf W)).take k) rfl ((own_to hown5 (below_drewN0 _ _)).alloc _) (some ⟨w5.heap.size, 0, none⟩) 1 1 _ [(d : Int)] rfl rfl (Row.lit (w5.drewN N) .i64 [(d : Int)] 3 rfl) (by unfold maxLen; omega) (by omega) (by simp; omega) ?_; intro A9 c9 w9 hown9 hc9 hB9)
            exact ⟨⟨k + 1, A9, c9, by omega, by go_num, rfl, hc9, by rw [losts_snoc HX.out.1, HE.out]; exact hown9, ((below_drewN' hB5' _).alloc (by simp; omega) _).trans hB9⟩, by simp [intOf]; omega⟩
    · obtain rfl : k = n := by omega
      rw [List.take_of_length_le (by simp [ranks]; exact Nat.le_of_eq HW.out.2.1)] at hown
      go_wp2
      go_ret
      exact ⟨A', c', rfl, hkc, Row.own hown, hB⟩

end Go.Proofs.Ytfmlnfblfhmapaa
