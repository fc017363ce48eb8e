/-
  WireTells. (Written by wip/tools/mk_wtells.py.)
-/
import Derived.Test.YtmapkjjglhpamaaWRefRead
import Derived.Test.YtmapkjjglhpamaaWFrameTells
import Derived.Test.YtmapkjjglhpamaaHead5
namespace Go.Proofs.Ytmapkjjglhpamaa
open Go.RowKit

theorem hd_byte {P : List Int} (hr : rightB P = true) : byteB (hdOf (readL P)).2.data := by
  cases h : readL P with
  | error e => exact byte_nil
  | ok q =>
    obtain ⟨f, k⟩ := q
    obtain ⟨_, _, _, _, _, _, h5, _⟩ := read_back hr h
    exact h5
theorem rdT_fr (l : List Int) (e : Nat) (f : Fr) : ∀ (r : List Int) (t : Nat), (rdT l e f t r).1 = f ∨ (rdT l e f t r).1 = Fr.none_
  | [], t => .inr rfl
  | b :: r, t => by
    simp only [rdT]
    split
    · split
      · split
        · exact .inl rfl
        · exact .inl rfl
      · exact rdT_fr l e f r (t + 1)
    · exact .inr rfl
theorem rdS_byte (l : List Int) : ∀ (r H P : List Int), rightB P = true → rightB r = true → byteB (rdS l H P r).1.data
  | [], _, _, _, _ => byte_nil
  | b :: r, H, P, hP, hr => by
    have hb : b = 0 ∨ b = 1 := rightB_at hr (k := 0) rfl
    have hP' := plain_right (H := H) hP hb
    have hr' : rightB r = true := rightB_drop hr 1
    simp only [rdS]
    split
    · split
      · rcases rdT_fr l (H.length + 1) (hdOf (readL (plainOf H P b))).2 r 0 with e | e
        · rw [e]; exact hd_byte hP'
        · rw [e]; exact byte_nil
      · exact rdS_byte l r _ _ hP' hr'
    · exact byte_nil
theorem wire_byte {l : List Int} (hr : rightB l = true) {f : Fr} {a p : Int} (h : wireRd l = (f, a, p)) : byteB f.data := by
  have := rdS_byte l l [] [] rfl hr
  rw [show rdS l [] [] l = wireRd l from rfl, h] at this
  exact this
theorem refRead5_at (l : List Int) (n : Nat) (hn : l.length = n) (A : Option Addr) (c : Nat) (w : World) (h : Row .i64 w w.heap.size A l) (hr : rightB l = true) (hm : n ≤ 5000) (x : Bool) (i : Int) (r : Bool) (k : Int) (dl : List Int) (a p : Int) (hres : wireRd l = (⟨x, i, r, k, dl⟩, a, p)) :
    Calls Try.prog 23 #[.slice A n c] w fun e w' => ∃ D m c', e = .returned (.tuple #[.agg #[.bool x, .int .i64 i, .bool r, .int .i64 k, .slice D m c'], .int .i64 a, .int .i64 p]) ∧ dl.length = m ∧ m ≤ c' ∧ Row .u8 w' w'.heap.size D dl ∧ Below w.heap.size w w' := by
  subst hn
  have := refRead5_any l A c w h hr hm
  rw [hres] at this
  exact this.mono fun _ _ ⟨D, m, c', h1, h2, h3, h4, _, h6⟩ => ⟨D, m, c', h1, h2, h3, h4, h6⟩

set_option linter.unusedSimpArgs false in
set_option maxRecDepth 100000 in
set_option maxHeartbeats 2000000 in
theorem wireTells_walk (x : Bool) (i : Int) (r : Bool) (n : Int) (dl : List Int) (m : Nat) (hdl : dl.length = m) (A : Option Addr) (c : Nat) (row : List Int) (nm : Nat) (hnm : row.length = nm) (B : Option Addr) (cB : Nat) (ext : Bool) (n_ : Nat) (hn_ : n_ ≤ 255)
    (w : World) (h : Row .u8 w w.heap.size A dl) (hb : byteB dl) (hr : Row .i64 w w.heap.size B row) (hmm : nm ≤ maxLen) :
    Calls Try.prog 3 #[.agg #[.bool x, .int .i64 i, .bool r, .int .i64 n, .slice A m c], .slice B nm cB, .bool ext, .int .u8 n_] w fun e w' => e = .returned (.bool true) ∧ Below w.heap.size w w' := by
  obtain ⟨i0, hi, hz0, hz1, hz2⟩ := info_parts Try.infoInt
  have HD := Lib.hid hdl
  have HB := Lib.hid hb
  clear hdl hb
  have HMl := Lib.hid hnm
  clear hnm
  obtain ⟨w0, hw0⟩ : ∃ w0, w.alloc (.cells #[.bool x, .int .i64 i, .bool r, .int .i64 n, .slice A m c] 24) = w0 := ⟨_, rfl⟩
  have hB0 : Below w.heap.size w w0 := by rw [← hw0]; exact below_alloc1 _ _
  have hF0 : w0.heap[w.heap.size]? = some (.cells #[.bool x, .int .i64 i, .bool r, .int .i64 n, .slice A m c] 24) := by rw [← hw0]; exact World.alloc_heap_new _ _
  have HW0 := Lib.hid hw0
  clear hw0
  go_enter Try.func3, Try.ntmps3
  go_wp2_with fail
  rw [HW0.out]
  clear HW0
  refine (head5_any _).mono ?_
  rintro e w1 ⟨rfl, hB1⟩
  have hF1 : w1.heap[w.heap.size]? = some (.cells #[.bool x, .int .i64 i, .bool r, .int .i64 n, .slice A m c] 24) := by repeat (first | assumption | exact Below.refl _ _ | ((with_reducible refine lit2 _ _ _ _ _ ?_); (first | (with_reducible rfl) | (simp; done))) | ((with_reducible refine lit1 _ _ _ _ ?_); (first | (with_reducible rfl) | (simp; done))) | refine row_step (by first | assumption | exact below_alloc1 _ _ | exact below_drew1 _ | exact below_drewN0 _ _) ?_ | refine block_below (by first | assumption | exact below_alloc1 _ _ | exact below_drew1 _ | exact below_drewN0 _ _) ?_ | refine below_then ?_ (by first | assumption | exact below_alloc1 _ _ | exact below_drew1 _ | exact below_drewN0 _ _))
  obtain ⟨c0, c1, c2, c3, c4⟩ := cells5' hF1
  go_wp2_with fail
  by_cases h1 : 100 < m
  · refine (great_q x i r n A m c _ true (by simp; omega)).mono ?_
    rintro e w2 ⟨rfl, hB2⟩
    go_wp2_with fail
    go_ret
    exact ⟨rfl, by repeat (first | assumption | exact Below.refl _ _ | ((with_reducible refine lit2 _ _ _ _ _ ?_); (first | (with_reducible rfl) | (simp; done))) | ((with_reducible refine lit1 _ _ _ _ ?_); (first | (with_reducible rfl) | (simp; done))) | refine row_step (by first | assumption | exact below_alloc1 _ _ | exact below_drew1 _ | exact below_drewN0 _ _) ?_ | refine block_below (by first | assumption | exact below_alloc1 _ _ | exact below_drew1 _ | exact below_drewN0 _ _) ?_ | refine below_then ?_ (by first | assumption | exact below_alloc1 _ _ | exact below_drew1 _ | exact below_drewN0 _ _))⟩
  refine (great_q x i r n A m c _ false (by simp; omega)).mono ?_
  rintro e w2 ⟨rfl, hB2⟩
  clear c0 c1 c2 c3 c4
  have hF2 : w2.heap[w.heap.size]? = some (.cells #[.bool x, .int .i64 i, .bool r, .int .i64 n, .slice A m c] 24) := by repeat (first | assumption | exact Below.refl _ _ | ((with_reducible refine lit2 _ _ _ _ _ ?_); (first | (with_reducible rfl) | (simp; done))) | ((with_reducible refine lit1 _ _ _ _ ?_); (first | (with_reducible rfl) | (simp; done))) | refine row_step (by first | assumption | exact below_alloc1 _ _ | exact below_drew1 _ | exact below_drewN0 _ _) ?_ | refine block_below (by first | assumption | exact below_alloc1 _ _ | exact below_drew1 _ | exact below_drewN0 _ _) ?_ | refine below_then ?_ (by first | assumption | exact below_alloc1 _ _ | exact below_drew1 _ | exact below_drewN0 _ _))
  have hA2 : Row .u8 w2 w2.heap.size A dl := by repeat (first | assumption | exact Below.refl _ _ | ((with_reducible refine lit2 _ _ _ _ _ ?_); (first | (with_reducible rfl) | (simp; done))) | ((with_reducible refine lit1 _ _ _ _ ?_); (first | (with_reducible rfl) | (simp; done))) | refine row_step (by first | assumption | exact below_alloc1 _ _ | exact below_drew1 _ | exact below_drewN0 _ _) ?_ | refine block_below (by first | assumption | exact below_alloc1 _ _ | exact below_drew1 _ | exact below_drewN0 _ _) ?_ | refine below_then ?_ (by first | assumption | exact below_alloc1 _ _ | exact below_drew1 _ | exact below_drewN0 _ _))
  have hR2 : Row .i64 w2 w2.heap.size B row := by repeat (first | assumption | exact Below.refl _ _ | ((with_reducible refine lit2 _ _ _ _ _ ?_); (first | (with_reducible rfl) | (simp; done))) | ((with_reducible refine lit1 _ _ _ _ ?_); (first | (with_reducible rfl) | (simp; done))) | refine row_step (by first | assumption | exact below_alloc1 _ _ | exact below_drew1 _ | exact below_drewN0 _ _) ?_ | refine block_below (by first | assumption | exact below_alloc1 _ _ | exact below_drew1 _ | exact below_drewN0 _ _) ?_ | refine below_then ?_ (by first | assumption | exact below_alloc1 _ _ | exact below_drew1 _ | exact below_drewN0 _ _))
  have hall2 : Below w.heap.size w w2 := by repeat (first | assumption | exact Below.refl _ _ | ((with_reducible refine lit2 _ _ _ _ _ ?_); (first | (with_reducible rfl) | (simp; done))) | ((with_reducible refine lit1 _ _ _ _ ?_); (first | (with_reducible rfl) | (simp; done))) | refine row_step (by first | assumption | exact below_alloc1 _ _ | exact below_drew1 _ | exact below_drewN0 _ _) ?_ | refine block_below (by first | assumption | exact below_alloc1 _ _ | exact below_drew1 _ | exact below_drewN0 _ _) ?_ | refine below_then ?_ (by first | assumption | exact below_alloc1 _ _ | exact below_drew1 _ | exact below_drewN0 _ _))
  by_cases h4 : 400 < nm
  · have d4 : decide ((400 : Int) < (nm : Int)) = true := by simp; omega
    go_wp2_with fail
    go_ret
    exact ⟨rfl, hall2⟩
  have d4 : decide ((400 : Int) < (nm : Int)) = false := by simp; omega
  clear hB0 hB1 hB2 hF0 hF1 h hr
  go_wp2_with fail
  obtain ⟨q1, hq1⟩ : ∃ q, rightV x i r n m = q := ⟨_, rfl⟩
  have Q1 := Veil.mk hq1
  clear hq1
  cases q1
  · refine wp_region_held_drew (S := fun W => W.cell? ⟨w.heap.size, 0, none⟩ = some (.bool x) ∧ W.cell? ⟨w.heap.size, 1, none⟩ = some (.int .i64 i) ∧ W.cell? ⟨w.heap.size, 2, none⟩ = some (.bool r) ∧ W.cell? ⟨w.heap.size, 3, none⟩ = some (.int .i64 n) ∧ W.cell? ⟨w.heap.size, 4, none⟩ = some (.slice A m c)) (by kernel_rfl) (cells5' (block_below (below_drew1 _) hF2)) (fun hHeld => ?_)
    refine wpAnyH_take' (i := 0) (v := .agg #[.bool x, .int .i64 i, .bool r, .int .i64 n, .slice A m c]) 28 rfl rfl (by kernel_rfl) (by kernel_rfl) (by kernel_rfl) (fun _ _ _ h => h) (Or.inl ⟨by rfl, ?_⟩) hHeld ?_
    · intro W hS
      obtain ⟨s0, s1, s2, s3, s4⟩ := hS
      go_simp
    try simp only [Act.put, List.setIfInBounds_toArray, List.set_cons_zero, List.set_cons_succ]
    refine wpAnyH_ready (rs := [1]) (by kernel_rfl) (by simp) ?_
    refine AllReadyH.cons rfl (fun K hK => ?_) AllReadyH.nil
    go_simp
    go_at_call 13
    refine (refFrRight_q x i r n A m c _ false Q1.out).mono ?_
    rintro e wb ⟨rfl, hBb⟩
    go_wp2_with fail
    have hB25 : Below w2.heap.size w2 wb := below_then (below_drew1 _) hBb
    refine hK.out _ _ (cells5' (obj_below hF2 hB25)) (fun hHeld2 => ?_)
    try simp only [Act.put, List.setIfInBounds_toArray, List.set_cons_zero, List.set_cons_succ]
    refine wpAnyH_take' (i := 2) (v := .bool false) 30 rfl rfl (by kernel_rfl) (by kernel_rfl) (by kernel_rfl) (fun _ _ _ h => h) (Or.inl ⟨by kernel_rfl, fun W _ => by go_simp⟩) hHeld2 ?_
    try simp only [Act.put, List.setIfInBounds_toArray, List.set_cons_zero, List.set_cons_succ]
    refine wpAnyH_take' (i := 3) (v := undef) 31 rfl rfl (by kernel_rfl) (by kernel_rfl) (by kernel_rfl) (fun _ _ _ h => h) (Or.inr ⟨by kernel_rfl, rfl⟩) hHeld2 ?_
    try simp only [Act.put, List.setIfInBounds_toArray, List.set_cons_zero, List.set_cons_succ]
    refine wpAnyH_take' (i := 5) (v := undef) 33 rfl rfl (by kernel_rfl) (by kernel_rfl) (by kernel_rfl) (fun _ _ _ h => h) (Or.inr ⟨by kernel_rfl, rfl⟩) hHeld2 ?_
    try simp only [Act.put, List.setIfInBounds_toArray, List.set_cons_zero, List.set_cons_succ]
    refine wpAnyH_skip (i := 4) 32 rfl rfl (by kernel_rfl) (by kernel_rfl) hHeld2 ?_
    try simp only [Act.put, List.setIfInBounds_toArray, List.set_cons_zero, List.set_cons_succ]
    refine wpAnyH_skip (i := 6) 34 rfl rfl (by kernel_rfl) (by kernel_rfl) hHeld2 ?_
    try simp only [Act.put, List.setIfInBounds_toArray, List.set_cons_zero, List.set_cons_succ]
    refine wpAnyH_skip (i := 7) 35 rfl rfl (by kernel_rfl) (by kernel_rfl) hHeld2 ?_
    try simp only [Act.put, List.setIfInBounds_toArray, List.set_cons_zero, List.set_cons_succ]
    refine wpAnyH_skip (i := 8) 36 rfl rfl (by kernel_rfl) (by kernel_rfl) hHeld2 ?_
    try simp only [Act.put, List.setIfInBounds_toArray, List.set_cons_zero, List.set_cons_succ]
    refine wpAnyH_skip (i := 9) 37 rfl rfl (by kernel_rfl) (by kernel_rfl) hHeld2 ?_
    try simp only [Act.put, List.setIfInBounds_toArray, List.set_cons_zero, List.set_cons_succ]
    refine wpAnyH_take' (i := 10) (v := undef) 38 rfl rfl (by kernel_rfl) (by kernel_rfl) (by kernel_rfl) (fun _ _ _ h => h) (Or.inr ⟨by kernel_rfl, rfl⟩) hHeld2 ?_
    try simp only [Act.put, List.setIfInBounds_toArray, List.set_cons_zero, List.set_cons_succ]
    refine wpAnyH_take' (i := 12) (v := undef) 40 rfl rfl (by kernel_rfl) (by kernel_rfl) (by kernel_rfl) (fun _ _ _ h => h) (Or.inr ⟨by kernel_rfl, rfl⟩) hHeld2 ?_
    try simp only [Act.put, List.setIfInBounds_toArray, List.set_cons_zero, List.set_cons_succ]
    refine wpAnyH_skip (i := 11) 39 rfl rfl (by kernel_rfl) (by kernel_rfl) hHeld2 ?_
    try simp only [Act.put, List.setIfInBounds_toArray, List.set_cons_zero, List.set_cons_succ]
    refine wpAnyH_skip (i := 13) 41 rfl rfl (by kernel_rfl) (by kernel_rfl) hHeld2 ?_
    try simp only [Act.put, List.setIfInBounds_toArray, List.set_cons_zero, List.set_cons_succ]
    refine wpAnyH_skip (i := 14) 42 rfl rfl (by kernel_rfl) (by kernel_rfl) hHeld2 ?_
    try simp only [Act.put, List.setIfInBounds_toArray, List.set_cons_zero, List.set_cons_succ]
    refine wpAnyH_skip (i := 15) 43 rfl rfl (by kernel_rfl) (by kernel_rfl) hHeld2 ?_
    try simp only [Act.put, List.setIfInBounds_toArray, List.set_cons_zero, List.set_cons_succ]
    refine wpAnyH_take' (i := 16) (v := .bool false) 44 rfl rfl (by kernel_rfl) (by kernel_rfl) (by kernel_rfl) (fun _ _ _ h => h) (Or.inl ⟨by kernel_rfl, fun W _ => by go_simp⟩) hHeld2 ?_
    try simp only [Act.put, List.setIfInBounds_toArray, List.set_cons_zero, List.set_cons_succ]
    refine wpAnyH_done (by kernel_rfl) ?_ _
    have hR5 := hR2.to hB25
    have hall5 := below_then hall2 hB25
    clear hHeld hHeld2 hBb hB25 hF2 hA2 hR2 hall2 Q1 hK
    generalize wb = w5 at hR5 hall5 ⊢
    obtain ⟨j, hj⟩ : ∃ j, n_ % 9 = j := ⟨_, rfl⟩
    have hj9 : j < 9 := by rw [← hj]; exact Nat.mod_lt _ (by omega)
    have hmod : (n_ : Int) % 9 = (j : Int) := by rw [← hj]; simp
    have htmod : Int.tmod (n_ : Int) 9 = (j : Int) := by rw [Int.tmod_eq_emod_of_nonneg (by omega)]; exact hmod
    obtain ⟨mv, hmv⟩ : ∃ v, ((mostV ext j : Nat) : Int) = v := ⟨_, rfl⟩
    have Hmv := Lib.hid hmv
    have dmv : (mv != mv) = false := by simp
    clear hj hmv
    go_wp2_with fail
    refine (wireMost_at ext j (by omega) w5 mv Hmv.out).mono ?_
    rintro e wq ⟨rfl, rfl⟩
    go_wp2_with fail
    refine (refMost_at ext j (by omega) w5 mv Hmv.out).mono ?_
    rintro e wq ⟨rfl, rfl⟩
    clear hmod htmod
    go_wp2_with fail
    by_cases h5 : rightB row = true
    rotate_left
    · refine (refRight_q row nm HMl.out B cB _ hR5 hmm false (by simpa using h5)).mono ?_
      rintro e w6 ⟨rfl, hB6⟩
      clear h5
      go_wp2_with fail
      go_ret
      exact ⟨rfl, below_then hall5 hB6⟩
    have H5 := Lib.hid h5
    clear h5
    refine (refRight_q row nm HMl.out B cB _ hR5 hmm true H5.out).mono ?_
    rintro e w6 ⟨rfl, hB6⟩
    have hR6 := hR5.to hB6
    have hall6 := below_then hall5 hB6
    clear hR5 hall5 hB6
    obtain ⟨⟨fx, fi, fr, fn, fd⟩, a, p, hrd⟩ : ∃ y a p, wireRd row = (y, a, p) := ⟨_, _, _, rfl⟩
    have hby := wire_byte H5.out hrd
    simp only at hby
    have HBy := Lib.hid hby
    have HRd := Veil.mk hrd
    clear hby hrd
    go_wp2_with fail
    refine (wireRead_at row nm HMl.out B cB w6 hR6 H5.out (by omega) fx fi fr fn fd a p HRd.out).mono ?_
    rintro e w7 ⟨D1, m1, c1', rfl, hm1, hmc1, hr1, hB7⟩
    have HM1 := Lib.hid hm1
    obtain ⟨w8, hw8⟩ : ∃ w8, w7.alloc (.cells #[.bool fx, .int .i64 fi, .bool fr, .int .i64 fn, .slice D1 m1 c1'] 24) = w8 := ⟨_, rfl⟩
    have hB8 := below_lits hw8
    have hX8 : w8.heap[w7.heap.size]? = some (.cells #[.bool fx, .int .i64 fi, .bool fr, .int .i64 fn, .slice D1 m1 c1'] 24) := by rw [← hw8]; exact World.alloc_heap_new _ _
    have hR8 := hR6.to (below_then hB7 hB8)
    have hall8 := below_then hall6 (below_then hB7 hB8)
    have hr8 := hr1.to hB8
    have HW8 := Lib.hid hw8
    clear hm1 hw8 hR6 hall6 hB7 hB8 hr1
    go_wp2_with fail
    rw [HW8.out]
    clear HW8
    refine (wireRead_at row nm HMl.out B cB w8 hR8 H5.out (by omega) fx fi fr fn fd a p HRd.out).mono ?_
    rintro e w9 ⟨D2, m2, c2', rfl, hm2, hmc2, hr2, hB9⟩
    have HM2 := Lib.hid hm2
    obtain ⟨w10, hw10⟩ : ∃ w10, w9.alloc (.cells #[.bool fx, .int .i64 fi, .bool fr, .int .i64 fn, .slice D2 m2 c2'] 24) = w10 := ⟨_, rfl⟩
    have hB10 := below_lits hw10
    have hY10 : w10.heap[w9.heap.size]? = some (.cells #[.bool fx, .int .i64 fi, .bool fr, .int .i64 fn, .slice D2 m2 c2'] 24) := by rw [← hw10]; exact World.alloc_heap_new _ _
    have hB810 := below_then hB9 hB10
    have hX10 := obj_below hX8 hB810
    have hR10 := hR8.to hB810
    have hall10 := below_then hall8 hB810
    have hr10 := hr8.to hB810
    have hs10 := hr2.to hB10
    have HW10 := Lib.hid hw10
    clear hm2 hw10 hR8 hall8 hB9 hB10 hB810 hr8 hr2 hX8
    go_wp2_with fail
    rw [HW10.out]
    clear HW10
    refine (refRead5_at row nm HMl.out B cB w10 hR10 H5.out (by omega) fx fi fr fn fd a p HRd.out).mono ?_
    rintro e w11 ⟨D3, m3, c3', rfl, hm3, hmc3, hr3, hB11⟩
    have HM3 := Lib.hid hm3
    obtain ⟨w12, hw12⟩ : ∃ w12, w11.alloc (.cells #[.bool fx, .int .i64 fi, .bool fr, .int .i64 fn, .slice D3 m3 c3'] 24) = w12 := ⟨_, rfl⟩
    have hB12 := below_lits hw12
    have hZ12 : w12.heap[w11.heap.size]? = some (.cells #[.bool fx, .int .i64 fi, .bool fr, .int .i64 fn, .slice D3 m3 c3'] 24) := by rw [← hw12]; exact World.alloc_heap_new _ _
    have hB1012 := below_then hB11 hB12
    have hX12 := obj_below hX10 hB1012
    have hY12 := obj_below hY10 hB1012
    have hall12 := below_then hall10 hB1012
    have hr12 := hr10.to hB1012
    have hs12 := hs10.to hB1012
    have ht12 := hr3.to hB12
    obtain ⟨c0, c1, c2, c3, c4⟩ := cells5' hX12
    obtain ⟨d0, d1, d2, d3, d4'⟩ := cells5' hZ12
    rw [← hw12] at c0 c1 c2 c3 c4 d0 d1 d2 d3 d4'
    have HW12 := Lib.hid hw12
    have aa : (a == a) = true := by simp
    have pp : (p == p) = true := by simp
    clear hm3 hw12 hR10 hall10 hB11 hB12 hB1012 hr10 hs10 hr3 hX10 hY10
    go_wp2_with fail
    rw [HW12.out]
    clear HW12 c0 c1 c2 c3 c4 d0 d1 d2 d3 d4'
    refine (refFrSame_at fx fi fr fn fd m1 HM1.out D1 c1' fx fi fr fn fd m3 HM3.out D3 c3' _ hr12 ht12 HBy.out HBy.out true (sameV_self _ _ _ _ _)).mono ?_
    rintro e w13 ⟨rfl, hB13⟩
    obtain ⟨c0, c1, c2, c3, c4⟩ := cells5' (obj_below hX12 hB13)
    obtain ⟨d0, d1, d2, d3, d4'⟩ := cells5' (obj_below hY12 hB13)
    go_wp2_with fail
    refine (refFrSame_at fx fi fr fn fd m1 HM1.out D1 c1' fx fi fr fn fd m2 HM2.out D2 c2' _ (hr12.to hB13) (hs12.to hB13) HBy.out HBy.out true (sameV_self _ _ _ _ _)).mono ?_
    rintro e w14 ⟨rfl, hB14⟩
    go_wp2_with fail
    go_ret
    exact ⟨rfl, below_then hall12 (below_then hB13 hB14)⟩

  · obtain ⟨ID, L, rfl, rfl, hID, hL, hmr⟩ := right_ok Q1.out
    obtain ⟨T, hT⟩ : ∃ T, headV x ID r L dl = T := ⟨_, rfl⟩
    obtain ⟨N, hN⟩ : ∃ N, (sentV T).length = N := ⟨_, rfl⟩
    have hTl : T.length = hn x + 8 * m := by rw [← hT, headV_len, HD.out]
    have hNb : N ≤ 4000 := by
      have e2 := sentV_len T
      have e3 := stuffL_most (bareV T)
      rw [bareV_len] at e3
      have : hn x ≤ 39 := by cases x <;> decide
      omega
    have HT := Veil.mk hT
    have HN := Veil.mk hN
    have HMr := Veil.mk hmr
    have nn : ((N : Int) != (N : Int)) = false := by simp
    clear hT hN hTl hmr
    go_region_held3 (fun W => W.cell? ⟨w.heap.size, 0, none⟩ = some (.bool x) ∧ W.cell? ⟨w.heap.size, 1, none⟩ = some (.int .i64 ID) ∧ W.cell? ⟨w.heap.size, 2, none⟩ = some (.bool r) ∧ W.cell? ⟨w.heap.size, 3, none⟩ = some (.int .i64 L) ∧ W.cell? ⟨w.heap.size, 4, none⟩ = some (.slice A m c)) (exact cells5' (by repeat (first | assumption | exact Below.refl _ _ | ((with_reducible refine lit2 _ _ _ _ _ ?_); (first | (with_reducible rfl) | (simp; done))) | ((with_reducible refine lit1 _ _ _ _ ?_); (first | (with_reducible rfl) | (simp; done))) | refine row_step (by first | assumption | exact below_alloc1 _ _ | exact below_drew1 _ | exact below_drewN0 _ _) ?_ | refine block_below (by first | assumption | exact below_alloc1 _ _ | exact below_drew1 _ | exact below_drewN0 _ _) ?_ | refine below_then ?_ (by first | assumption | exact below_alloc1 _ _ | exact below_drew1 _ | exact below_drewN0 _ _)))) (first
      | (go_at_call 13; refine (refFrRight_q x ID r L A m c _ true Q1.out).mono ?_; rintro e wb ⟨rfl, hBb⟩)
      | (go_at_call 15; refine (wireBits_at x ID r L dl m HD.out A c hID hL _ (by repeat (first | assumption | exact Below.refl _ _ | ((with_reducible refine lit2 _ _ _ _ _ ?_); (first | (with_reducible rfl) | (simp; done))) | ((with_reducible refine lit1 _ _ _ _ ?_); (first | (with_reducible rfl) | (simp; done))) | refine row_step (by first | assumption | exact below_alloc1 _ _ | exact below_drew1 _ | exact below_drewN0 _ _) ?_ | refine block_below (by first | assumption | exact below_alloc1 _ _ | exact below_drew1 _ | exact below_drewN0 _ _) ?_ | refine below_then ?_ (by first | assumption | exact below_alloc1 _ _ | exact below_drew1 _ | exact below_drewN0 _ _))) HB.out (by omega) T HT.out N HN.out).mono ?_; rintro e wh ⟨Ah, ch, rfl, hrh, hch, hBh⟩)
      | (go_at_call 16; refine (refBits5_at x ID r L dl m HD.out A c hID hL _ (by repeat (first | assumption | exact Below.refl _ _ | ((with_reducible refine lit2 _ _ _ _ _ ?_); (first | (with_reducible rfl) | (simp; done))) | ((with_reducible refine lit1 _ _ _ _ ?_); (first | (with_reducible rfl) | (simp; done))) | refine row_step (by first | assumption | exact below_alloc1 _ _ | exact below_drew1 _ | exact below_drewN0 _ _) ?_ | refine block_below (by first | assumption | exact below_alloc1 _ _ | exact below_drew1 _ | exact below_drewN0 _ _) ?_ | refine below_then ?_ (by first | assumption | exact below_alloc1 _ _ | exact below_drew1 _ | exact below_drewN0 _ _))) HB.out (by omega) T HT.out N HN.out).mono ?_; rintro e wi ⟨Ai, ci, rfl, hoi, hBi⟩; have hri := Row.own hoi; clear hoi)
      | (go_at_call 14; refine (same_q (sentV T) (sentV T) N N HN.out HN.out Ah Ai ch ci _ (by repeat (first | assumption | exact Below.refl _ _ | ((with_reducible refine lit2 _ _ _ _ _ ?_); (first | (with_reducible rfl) | (simp; done))) | ((with_reducible refine lit1 _ _ _ _ ?_); (first | (with_reducible rfl) | (simp; done))) | refine row_step (by first | assumption | exact below_alloc1 _ _ | exact below_drew1 _ | exact below_drewN0 _ _) ?_ | refine block_below (by first | assumption | exact below_alloc1 _ _ | exact below_drew1 _ | exact below_drewN0 _ _) ?_ | refine below_then ?_ (by first | assumption | exact below_alloc1 _ _ | exact below_drew1 _ | exact below_drewN0 _ _))) (by repeat (first | assumption | exact Below.refl _ _ | ((with_reducible refine lit2 _ _ _ _ _ ?_); (first | (with_reducible rfl) | (simp; done))) | ((with_reducible refine lit1 _ _ _ _ ?_); (first | (with_reducible rfl) | (simp; done))) | refine row_step (by first | assumption | exact below_alloc1 _ _ | exact below_drew1 _ | exact below_drewN0 _ _) ?_ | refine block_below (by first | assumption | exact below_alloc1 _ _ | exact below_drew1 _ | exact below_drewN0 _ _) ?_ | refine below_then ?_ (by first | assumption | exact below_alloc1 _ _ | exact below_drew1 _ | exact below_drewN0 _ _))) (by unfold maxLen; omega) true (by simp [sameB])).mono ?_; rintro e wl ⟨rfl, hBl⟩)
      | (go_at_call 17; refine (wireLength_at x ID r L dl m HD.out A c hID hL _ (by repeat (first | assumption | exact Below.refl _ _ | ((with_reducible refine lit2 _ _ _ _ _ ?_); (first | (with_reducible rfl) | (simp; done))) | ((with_reducible refine lit1 _ _ _ _ ?_); (first | (with_reducible rfl) | (simp; done))) | refine row_step (by first | assumption | exact below_alloc1 _ _ | exact below_drew1 _ | exact below_drewN0 _ _) ?_ | refine block_below (by first | assumption | exact below_alloc1 _ _ | exact below_drew1 _ | exact below_drewN0 _ _) ?_ | refine below_then ?_ (by first | assumption | exact below_alloc1 _ _ | exact below_drew1 _ | exact below_drewN0 _ _))) HB.out (by omega) T HT.out N HN.out).mono ?_; rintro e wj ⟨rfl, hBj⟩)
      | (go_at_call 18; refine (refLength5_at x ID r L dl m HD.out A c hID hL _ (by repeat (first | assumption | exact Below.refl _ _ | ((with_reducible refine lit2 _ _ _ _ _ ?_); (first | (with_reducible rfl) | (simp; done))) | ((with_reducible refine lit1 _ _ _ _ ?_); (first | (with_reducible rfl) | (simp; done))) | refine row_step (by first | assumption | exact below_alloc1 _ _ | exact below_drew1 _ | exact below_drewN0 _ _) ?_ | refine block_below (by first | assumption | exact below_alloc1 _ _ | exact below_drew1 _ | exact below_drewN0 _ _) ?_ | refine below_then ?_ (by first | assumption | exact below_alloc1 _ _ | exact below_drew1 _ | exact below_drewN0 _ _))) HB.out (by omega) T HT.out N HN.out).mono ?_; rintro e wm ⟨rfl, hBm⟩))
    have HAll := Lib.hid hall2
    clear hall2
    have hR5 : Row .i64 wm wm.heap.size B row := by repeat (first | assumption | exact Below.refl _ _ | ((with_reducible refine lit2 _ _ _ _ _ ?_); (first | (with_reducible rfl) | (simp; done))) | ((with_reducible refine lit1 _ _ _ _ ?_); (first | (with_reducible rfl) | (simp; done))) | refine row_step (by first | assumption | exact below_alloc1 _ _ | exact below_drew1 _ | exact below_drewN0 _ _) ?_ | refine block_below (by first | assumption | exact below_alloc1 _ _ | exact below_drew1 _ | exact below_drewN0 _ _) ?_ | refine below_then ?_ (by first | assumption | exact below_alloc1 _ _ | exact below_drew1 _ | exact below_drewN0 _ _))
    have hB45 : Below w2.heap.size w2 wm := by repeat (first | assumption | exact Below.refl _ _ | ((with_reducible refine lit2 _ _ _ _ _ ?_); (first | (with_reducible rfl) | (simp; done))) | ((with_reducible refine lit1 _ _ _ _ ?_); (first | (with_reducible rfl) | (simp; done))) | refine row_step (by first | assumption | exact below_alloc1 _ _ | exact below_drew1 _ | exact below_drewN0 _ _) ?_ | refine block_below (by first | assumption | exact below_alloc1 _ _ | exact below_drew1 _ | exact below_drewN0 _ _) ?_ | refine below_then ?_ (by first | assumption | exact below_alloc1 _ _ | exact below_drew1 _ | exact below_drewN0 _ _))
    have hall5 : Below w.heap.size w wm := HAll.out.trans (hB45.mono HAll.out.size)
    clear hB45 hF2 hA2 hR2 HAll Q1
    generalize wm = w5 at hR5 hall5 ⊢
    obtain ⟨j, hj⟩ : ∃ j, n_ % 9 = j := ⟨_, rfl⟩
    have hj9 : j < 9 := by rw [← hj]; exact Nat.mod_lt _ (by omega)
    have hmod : (n_ : Int) % 9 = (j : Int) := by rw [← hj]; simp
    have htmod : Int.tmod (n_ : Int) 9 = (j : Int) := by rw [Int.tmod_eq_emod_of_nonneg (by omega)]; exact hmod
    obtain ⟨mv, hmv⟩ : ∃ v, ((mostV ext j : Nat) : Int) = v := ⟨_, rfl⟩
    have Hmv := Lib.hid hmv
    have dmv : (mv != mv) = false := by simp
    clear hj hmv
    go_wp2_with fail
    refine (wireMost_at ext j (by omega) w5 mv Hmv.out).mono ?_
    rintro e wq ⟨rfl, rfl⟩
    go_wp2_with fail
    refine (refMost_at ext j (by omega) w5 mv Hmv.out).mono ?_
    rintro e wq ⟨rfl, rfl⟩
    clear hmod htmod
    go_wp2_with fail
    by_cases h5 : rightB row = true
    rotate_left
    · refine (refRight_q row nm HMl.out B cB _ hR5 hmm false (by simpa using h5)).mono ?_
      rintro e w6 ⟨rfl, hB6⟩
      clear h5
      go_wp2_with fail
      go_ret
      exact ⟨rfl, below_then hall5 hB6⟩
    have H5 := Lib.hid h5
    clear h5
    refine (refRight_q row nm HMl.out B cB _ hR5 hmm true H5.out).mono ?_
    rintro e w6 ⟨rfl, hB6⟩
    have hR6 := hR5.to hB6
    have hall6 := below_then hall5 hB6
    clear hR5 hall5 hB6
    obtain ⟨⟨fx, fi, fr, fn, fd⟩, a, p, hrd⟩ : ∃ y a p, wireRd row = (y, a, p) := ⟨_, _, _, rfl⟩
    have hby := wire_byte H5.out hrd
    simp only at hby
    have HBy := Lib.hid hby
    have HRd := Veil.mk hrd
    clear hby hrd
    go_wp2_with fail
    refine (wireRead_at row nm HMl.out B cB w6 hR6 H5.out (by omega) fx fi fr fn fd a p HRd.out).mono ?_
    rintro e w7 ⟨D1, m1, c1', rfl, hm1, hmc1, hr1, hB7⟩
    have HM1 := Lib.hid hm1
    obtain ⟨w8, hw8⟩ : ∃ w8, w7.alloc (.cells #[.bool fx, .int .i64 fi, .bool fr, .int .i64 fn, .slice D1 m1 c1'] 24) = w8 := ⟨_, rfl⟩
    have hB8 := below_lits hw8
    have hX8 : w8.heap[w7.heap.size]? = some (.cells #[.bool fx, .int .i64 fi, .bool fr, .int .i64 fn, .slice D1 m1 c1'] 24) := by rw [← hw8]; exact World.alloc_heap_new _ _
    have hR8 := hR6.to (below_then hB7 hB8)
    have hall8 := below_then hall6 (below_then hB7 hB8)
    have hr8 := hr1.to hB8
    have HW8 := Lib.hid hw8
    clear hm1 hw8 hR6 hall6 hB7 hB8 hr1
    go_wp2_with fail
    rw [HW8.out]
    clear HW8
    refine (wireRead_at row nm HMl.out B cB w8 hR8 H5.out (by omega) fx fi fr fn fd a p HRd.out).mono ?_
    rintro e w9 ⟨D2, m2, c2', rfl, hm2, hmc2, hr2, hB9⟩
    have HM2 := Lib.hid hm2
    obtain ⟨w10, hw10⟩ : ∃ w10, w9.alloc (.cells #[.bool fx, .int .i64 fi, .bool fr, .int .i64 fn, .slice D2 m2 c2'] 24) = w10 := ⟨_, rfl⟩
    have hB10 := below_lits hw10
    have hY10 : w10.heap[w9.heap.size]? = some (.cells #[.bool fx, .int .i64 fi, .bool fr, .int .i64 fn, .slice D2 m2 c2'] 24) := by rw [← hw10]; exact World.alloc_heap_new _ _
    have hB810 := below_then hB9 hB10
    have hX10 := obj_below hX8 hB810
    have hR10 := hR8.to hB810
    have hall10 := below_then hall8 hB810
    have hr10 := hr8.to hB810
    have hs10 := hr2.to hB10
    have HW10 := Lib.hid hw10
    clear hm2 hw10 hR8 hall8 hB9 hB10 hB810 hr8 hr2 hX8
    go_wp2_with fail
    rw [HW10.out]
    clear HW10
    refine (refRead5_at row nm HMl.out B cB w10 hR10 H5.out (by omega) fx fi fr fn fd a p HRd.out).mono ?_
    rintro e w11 ⟨D3, m3, c3', rfl, hm3, hmc3, hr3, hB11⟩
    have HM3 := Lib.hid hm3
    obtain ⟨w12, hw12⟩ : ∃ w12, w11.alloc (.cells #[.bool fx, .int .i64 fi, .bool fr, .int .i64 fn, .slice D3 m3 c3'] 24) = w12 := ⟨_, rfl⟩
    have hB12 := below_lits hw12
    have hZ12 : w12.heap[w11.heap.size]? = some (.cells #[.bool fx, .int .i64 fi, .bool fr, .int .i64 fn, .slice D3 m3 c3'] 24) := by rw [← hw12]; exact World.alloc_heap_new _ _
    have hB1012 := below_then hB11 hB12
    have hX12 := obj_below hX10 hB1012
    have hY12 := obj_below hY10 hB1012
    have hall12 := below_then hall10 hB1012
    have hr12 := hr10.to hB1012
    have hs12 := hs10.to hB1012
    have ht12 := hr3.to hB12
    obtain ⟨c0, c1, c2, c3, c4⟩ := cells5' hX12
    obtain ⟨d0, d1, d2, d3, d4'⟩ := cells5' hZ12
    rw [← hw12] at c0 c1 c2 c3 c4 d0 d1 d2 d3 d4'
    have HW12 := Lib.hid hw12
    have aa : (a == a) = true := by simp
    have pp : (p == p) = true := by simp
    clear hm3 hw12 hR10 hall10 hB11 hB12 hB1012 hr10 hs10 hr3 hX10 hY10
    go_wp2_with fail
    rw [HW12.out]
    clear HW12 c0 c1 c2 c3 c4 d0 d1 d2 d3 d4'
    refine (refFrSame_at fx fi fr fn fd m1 HM1.out D1 c1' fx fi fr fn fd m3 HM3.out D3 c3' _ hr12 ht12 HBy.out HBy.out true (sameV_self _ _ _ _ _)).mono ?_
    rintro e w13 ⟨rfl, hB13⟩
    obtain ⟨c0, c1, c2, c3, c4⟩ := cells5' (obj_below hX12 hB13)
    obtain ⟨d0, d1, d2, d3, d4'⟩ := cells5' (obj_below hY12 hB13)
    go_wp2_with fail
    refine (refFrSame_at fx fi fr fn fd m1 HM1.out D1 c1' fx fi fr fn fd m2 HM2.out D2 c2' _ (hr12.to hB13) (hs12.to hB13) HBy.out HBy.out true (sameV_self _ _ _ _ _)).mono ?_
    rintro e w14 ⟨rfl, hB14⟩
    go_wp2_with fail
    go_ret
    exact ⟨rfl, below_then hall12 (below_then hB13 hB14)⟩

end Go.Proofs.Ytmapkjjglhpamaa
