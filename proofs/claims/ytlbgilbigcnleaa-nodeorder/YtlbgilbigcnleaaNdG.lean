/-
  The live question of layer 9.
-/
import Derived.Test.YtlbgilbigcnleaaNdO
namespace Go.Proofs.Ytlbgilbigcnleaa
open Go.RowKit
set_option linter.unusedVariables false
set_option linter.unusedSimpArgs false

abbrev hL : FL := ⟨false, 4, 4⟩
abbrev fOf (i : Int) : FC := ⟨false, i, false, 0, []⟩
abbrev fvOf (i : Int) : FV := ⟨false, i, false, 0, none, 0, 0⟩
def hN1 : NC := ⟨[], [hL], newV, []⟩
def hN2 : NC := ⟨[fOf 5], [hL], newV, []⟩
def hN3 : NC := ⟨[fOf 5, fOf 3], [hL], newV, []⟩
def hM1 : NC := ⟨[fOf 5], [hL], newV, []⟩
def hM2 : NC := ⟨[fOf 5], [hL], newV, [fOf 6]⟩
def hM3 : NC := ⟨[fOf 5], [hL], newV, [fOf 6]⟩
def hM4 : NC := ⟨[fOf 5], [hL], ⟨0, 8, 1, 0⟩, [fOf 6]⟩
def hM5 : NC := ⟨[fOf 5], [hL], ⟨0, 8, 1, 0⟩, []⟩
theorem hq1 : newE [hL] = 0 ∧ newN [hL] = hN1 ∧ newE [⟨false, 0, 1⟩] = 1 ∧ newN [⟨false, 0, 1⟩] = zeroN := by decide +kernel
theorem hq2 : sendE hN1 (fOf 5) = 0 ∧ sendN hN1 (fOf 5) = hN2 ∧ sendE hN2 (fOf 3) = 0 ∧ sendN hN2 (fOf 3) = hN3 ∧ sendE hN3 (fOf (-1)) = 90 ∧ sendN hN3 (fOf (-1)) = hN3 := by decide +kernel
theorem hq3 : hasN hN3 = true ∧ nextF hN3 = fOf 3 ∧ sentN hN3 true = hM1 ∧ hasN hM1 = true ∧ nextF hM1 = fOf 5 := by decide +kernel
theorem hq4 : heardN hM1 (fOf 6) true false = hM2 ∧ heardN hM2 (fOf 2) true false = hM3 ∧ heardN hM3 (fOf 7) false true = hM4 := by decide +kernel
theorem hq5 : takeN hM4 = hM5 ∧ takeF hM4 = fOf 6 ∧ takeB hM4 = true := by decide +kernel
theorem hq6 : rightN hN1 = true ∧ rightN hN2 = true ∧ rightN hN3 = true ∧ rightN hM1 = true ∧ rightN hM2 = true ∧ rightN hM3 = true ∧ rightN hM4 = true ∧ rightN hM5 = true ∧ rightN zeroN = false := by decide +kernel
theorem hq7 : rightC (fOf 6) = true ∧ rightC (fOf 2) = true ∧ rightC (fOf 7) = true := by decide +kernel

set_option maxRecDepth 100000 in
set_option maxHeartbeats 1000000 in
theorem head_c (w : World) : Calls Try.prog 10 #[] w fun e w' => e = .returned (.bool true) ∧ Below w.heap.size w w' := by
  have hT0 : Below w.heap.size w w := Below.refl _ _
  go_enter Try.func10, Try.ntmps10
  go_wp2_with fail
  obtain ⟨w1, hw1⟩ : ∃ w1, w.alloc (.cells #[.bool false, .int .i64 4, .int .i64 4] 61) = w1 := ⟨_, rfl⟩
  have hB1 : Below w.heap.size w w1 := by rw [← hw1]; exact below_alloc1 _ _
  have hl_ : LSl w1 (Out []) (some ⟨w.heap.size, 0, none⟩) 1 1 [hL] := by rw [← hw1]; exact lsl_lit1 hL (by decide) ((out_up (fun _ h => by cases h)) _ (Nat.le_refl _)) rfl
  rw [hw1]
  clear hw1
  have hT1 := below_then hT0 hB1
  clear hT0   hB1
  have hl1 := hl_
  clear hl_
  refine (new_c hl1 (by omega) (out_up (fun _ h => by cases h)) 0 hq1.1 hN1 hq1.2.1).mono ?_
  rintro e w2 ⟨n1, rfl, hn1_, hB2⟩
  have hT2 := below_then hT1 hB2
  have hl2 := LSl.to hl1 hB2
  clear hT1  hl1 hB2
  have hn12 := hn1_
  clear hn1_
  clear hl2
  go_wp2_with fail
  replace hn12 := hn12.mono (out_cons (L := []) (X := w2.heap.size) (Nat.le_refl _))
  have hgea : w.heap.size ≤ w2.heap.size := hT2.size
  obtain ⟨w3, hw3⟩ : ∃ w3, w2.alloc (.cells #[.slice n1.qa n1.qm n1.qc, .slice n1.la n1.lm n1.lc, .int .i64 n1.k.t, .int .i64 n1.k.r, .int .i64 n1.k.s, .int .i64 n1.k.q, .slice n1.ga n1.gm n1.gc] 27) = w3 := ⟨_, rfl⟩
  have hB3 : Below w2.heap.size w2 w3 := by rw [← hw3]; exact below_alloc1 _ _
  have ha3 : w3.heap[w2.heap.size]? = some (.cells #[.slice n1.qa n1.qm n1.qc, .slice n1.la n1.lm n1.lc, .int .i64 n1.k.t, .int .i64 n1.k.r, .int .i64 n1.k.s, .int .i64 n1.k.q, .slice n1.ga n1.gm n1.gc] 27) := by rw [← hw3]; exact World.alloc_heap_new _ _
  have hzw3 : w3.heap.size = w2.heap.size + 1 := by rw [← hw3]; simp
  rw [hw3]
  clear hw3
  have hT3 := below_then hT2 hB3
  have hn13 := NIs.to hn12 hB3
  clear hT2  hn12 hB3
  obtain ⟨w4, hw4⟩ : ∃ w4, w3.alloc (.cells #[.bool false, .int .i64 0, .int .i64 1] 61) = w4 := ⟨_, rfl⟩
  have hB4 : Below w3.heap.size w3 w4 := by rw [← hw4]; exact below_alloc1 _ _
  have hl_ : LSl w4 (Out [w2.heap.size]) (some ⟨w2.heap.size + 1, 0, none⟩) 1 1 [⟨false, 0, 1⟩] := by rw [← hw4]; exact lsl_lit1 ⟨false, 0, 1⟩ (by decide) ((out_up (lt_cons (Array.getElem?_eq_some_iff.1 ha3).1 (fun _ h => by cases h))) _ (Nat.le_refl _)) hzw3.symm
  rw [hw4]
  clear hw4
  have hT4 := below_then hT3 hB4
  have ha4 := block_below hB4 ha3
  have hn14 := NIs.to hn13 hB4
  clear hT3 ha3 hn13 hB4
  have hl4 := hl_
  clear hl_
  clear hzw3
  refine (new_c hl4 (by omega) (out_up (lt_cons (Array.getElem?_eq_some_iff.1 ha4).1 (fun _ h => by cases h))) 1 hq1.2.2.1 zeroN hq1.2.2.2).mono ?_
  rintro e w5 ⟨n2, rfl, hn2_, hB5⟩
  have hT5 := below_then hT4 hB5
  have ha5 := block_below hB5 ha4
  have hn15 := NIs.to hn14 hB5
  have hl5 := LSl.to hl4 hB5
  clear hT4 ha4 hn14 hl4 hB5
  have hn25 := hn2_
  clear hn2_
  clear hl5
  clear hn25
  have hla := (Array.getElem?_eq_some_iff.1 ha5).1
  obtain ⟨ac0, ac1, ac2, ac3, ac4, ac5, ac6⟩ := cells7' ha5
  go_wp2_with fail
  clear hla ac0 ac1 ac2 ac3 ac4 ac5 ac6
  obtain ⟨w6, hw6⟩ : ∃ w6, w5.alloc (.cells #[.slice n2.qa n2.qm n2.qc, .slice n2.la n2.lm n2.lc, .int .i64 n2.k.t, .int .i64 n2.k.r, .int .i64 n2.k.s, .int .i64 n2.k.q, .slice n2.ga n2.gm n2.gc] 27) = w6 := ⟨_, rfl⟩
  have hB6 : Below w5.heap.size w5 w6 := by rw [← hw6]; exact below_alloc1 _ _
  have hb6 : w6.heap[w5.heap.size]? = some (.cells #[.slice n2.qa n2.qm n2.qc, .slice n2.la n2.lm n2.lc, .int .i64 n2.k.t, .int .i64 n2.k.r, .int .i64 n2.k.s, .int .i64 n2.k.q, .slice n2.ga n2.gm n2.gc] 27) := by rw [← hw6]; exact World.alloc_heap_new _ _
  rw [hw6]
  clear hw6
  have hT6 := below_then hT5 hB6
  have ha6 := block_below hB6 ha5
  have hn16 := NIs.to hn15 hB6
  clear hT5 ha5 hn15 hB6
  skip
  refine (send_c (N := hN1) (F := fOf 5) (f := fvOf 5) hn16 (fis_lit _ _ _ _) (okN_of hq6.1) (out_up (lt_cons (Array.getElem?_eq_some_iff.1 ha6).1 (fun _ h => by cases h))) 0 hq2.1 hN2 hq2.2.1).mono ?_
  rintro e w7 ⟨n3, rfl, hn3_, hB7⟩
  have hT7 := below_then hT6 hB7
  have ha7 := block_below hB7 ha6
  have hn17 := NIs.to hn16 hB7
  clear hT6 ha6 hn16 hB7
  have hn37 := hn3_
  clear hn3_
  clear hn17
  have hla := (Array.getElem?_eq_some_iff.1 ha7).1
  obtain ⟨⟨ac0, ac1, ac2, ac3, ac4, ac5, ac6⟩, af0, af1, af2, af3, af4, af5, af6⟩ := cells7 ha7
  go_wp2_with fail
  clear hla ac0 ac1 ac2 ac3 ac4 ac5 ac6 af0 af1 af2 af3 af4 af5 af6
  obtain ⟨w8, hw8⟩ : ∃ w_, set7 w7 w2.heap.size (.slice n3.qa n3.qm n3.qc) (.slice n3.la n3.lm n3.lc) (.int .i64 n3.k.t) (.int .i64 n3.k.r) (.int .i64 n3.k.s) (.int .i64 n3.k.q) (.slice n3.ga n3.gm n3.gc) = w_ := ⟨_, rfl⟩
  have hG8 : w7.grownBy w8 (some w2.heap.size) := by rw [← hw8]; exact set7_grown _ _ _ _ _ _ _ _ _
  have hT8 := below_g hT7 hG8 hgea
  have ha8 : w8.heap[w2.heap.size]? = some (.cells #[.slice n3.qa n3.qm n3.qc, .slice n3.la n3.lm n3.lc, .int .i64 n3.k.t, .int .i64 n3.k.r, .int .i64 n3.k.s, .int .i64 n3.k.q, .slice n3.ga n3.gm n3.gc] 27) := by rw [← hw8]; exact set7_obj ha7 _ _ _ _ _ _ _
  have hn38 := NIs.grow hn37 hG8 (out_not (by simp))
  have Hsz8 := Lib.hid (show w8.heap.size = w7.heap.size by rw [← hw8]; simp [set7, World.setCell])
  unfold set7 at hw8
  rw [hw8]
  clear hw8 hG8 hT7 ha7 hn37
  refine (send_c (N := hN2) (F := fOf 3) (f := fvOf 3) hn38 (fis_lit _ _ _ _) (okN_of hq6.2.1) (out_up (lt_cons (Array.getElem?_eq_some_iff.1 ha8).1 (fun _ h => by cases h))) 0 hq2.2.2.1 hN3 hq2.2.2.2.1).mono ?_
  rintro e w9 ⟨n4, rfl, hn4_, hB9⟩
  have hT9 := below_then hT8 hB9
  have ha9 := block_below hB9 ha8
  have hn39 := NIs.to hn38 hB9
  clear hT8 ha8 hn38 hB9
  have hn49 := hn4_
  clear hn4_
  clear hn39
  have hla := (Array.getElem?_eq_some_iff.1 ha9).1
  obtain ⟨⟨ac0, ac1, ac2, ac3, ac4, ac5, ac6⟩, af0, af1, af2, af3, af4, af5, af6⟩ := cells7 ha9
  go_wp2_with fail
  clear hla ac0 ac1 ac2 ac3 ac4 ac5 ac6 af0 af1 af2 af3 af4 af5 af6
  obtain ⟨w10, hw10⟩ : ∃ w_, set7 w9 w2.heap.size (.slice n4.qa n4.qm n4.qc) (.slice n4.la n4.lm n4.lc) (.int .i64 n4.k.t) (.int .i64 n4.k.r) (.int .i64 n4.k.s) (.int .i64 n4.k.q) (.slice n4.ga n4.gm n4.gc) = w_ := ⟨_, rfl⟩
  have hG10 : w9.grownBy w10 (some w2.heap.size) := by rw [← hw10]; exact set7_grown _ _ _ _ _ _ _ _ _
  have hT10 := below_g hT9 hG10 hgea
  have ha10 : w10.heap[w2.heap.size]? = some (.cells #[.slice n4.qa n4.qm n4.qc, .slice n4.la n4.lm n4.lc, .int .i64 n4.k.t, .int .i64 n4.k.r, .int .i64 n4.k.s, .int .i64 n4.k.q, .slice n4.ga n4.gm n4.gc] 27) := by rw [← hw10]; exact set7_obj ha9 _ _ _ _ _ _ _
  have hn410 := NIs.grow hn49 hG10 (out_not (by simp))
  have Hsz10 := Lib.hid (show w10.heap.size = w9.heap.size by rw [← hw10]; simp [set7, World.setCell])
  unfold set7 at hw10
  rw [hw10]
  clear hw10 hG10 hT9 ha9 hn49
  refine (send_c (N := hN3) (F := fOf (-1)) (f := fvOf (-1)) hn410 (fis_lit _ _ _ _) (okN_of hq6.2.2.1) (out_up (lt_cons (Array.getElem?_eq_some_iff.1 ha10).1 (fun _ h => by cases h))) 90 hq2.2.2.2.2.1 hN3 hq2.2.2.2.2.2).mono ?_
  rintro e w11 ⟨n5, rfl, hn5_, hB11⟩
  have hT11 := below_then hT10 hB11
  have ha11 := block_below hB11 ha10
  have hn411 := NIs.to hn410 hB11
  clear hT10 ha10 hn410 hB11
  have hn511 := hn5_
  clear hn5_
  clear hn511
  have hla := (Array.getElem?_eq_some_iff.1 ha11).1
  obtain ⟨ac0, ac1, ac2, ac3, ac4, ac5, ac6⟩ := cells7' ha11
  go_wp2_with fail
  clear hla ac0 ac1 ac2 ac3 ac4 ac5 ac6
  obtain ⟨w12, hw12⟩ : ∃ w12, w11.alloc (.cells #[.slice n5.qa n5.qm n5.qc, .slice n5.la n5.lm n5.lc, .int .i64 n5.k.t, .int .i64 n5.k.r, .int .i64 n5.k.s, .int .i64 n5.k.q, .slice n5.ga n5.gm n5.gc] 27) = w12 := ⟨_, rfl⟩
  have hB12 : Below w11.heap.size w11 w12 := by rw [← hw12]; exact below_alloc1 _ _
  have hc12 : w12.heap[w11.heap.size]? = some (.cells #[.slice n5.qa n5.qm n5.qc, .slice n5.la n5.lm n5.lc, .int .i64 n5.k.t, .int .i64 n5.k.r, .int .i64 n5.k.s, .int .i64 n5.k.q, .slice n5.ga n5.gm n5.gc] 27) := by rw [← hw12]; exact World.alloc_heap_new _ _
  rw [hw12]
  clear hw12
  have hT12 := below_then hT11 hB12
  have ha12 := block_below hB12 ha11
  have hn412 := NIs.to hn411 hB12
  clear hT11 ha11 hn411 hB12
  refine (next_c (N := hN3) hn412 (okN_of hq6.2.2.1) true hq3.1 (fOf 3) hq3.2.1).mono ?_
  rintro e w13 ⟨x, rfl, hx_, hB13⟩
  have hT13 := below_then hT12 hB13
  have ha13 := block_below hB13 ha12
  have hn413 := NIs.to hn412 hB13
  clear hT12 ha12 hn412 hB13
  have hx13 := hx_
  clear hx_
  obtain ⟨xx, xi, xr, xn, xa, xm, xc⟩ := x
  obtain rfl : xi = 3 := hx13.i
  clear hx13
  have hla := (Array.getElem?_eq_some_iff.1 ha13).1
  obtain ⟨ac0, ac1, ac2, ac3, ac4, ac5, ac6⟩ := cells7' ha13
  go_wp2_with fail
  clear hla ac0 ac1 ac2 ac3 ac4 ac5 ac6
  have hgex : w.heap.size ≤ w13.heap.size := hT13.size
  have Ha_x := Lib.hid (show w2.heap.size ≠ w13.heap.size from Nat.ne_of_lt (Array.getElem?_eq_some_iff.1 ha13).1)
  have Hx_a := Lib.hid (show w13.heap.size ≠ w2.heap.size from Ne.symm Ha_x.out)
  obtain ⟨w14, hw14⟩ : ∃ w14, w13.alloc (.cells #[.bool xx, .int .i64 3, .bool xr, .int .i64 xn, .slice xa xm xc] 30) = w14 := ⟨_, rfl⟩
  have hB14 : Below w13.heap.size w13 w14 := by rw [← hw14]; exact below_alloc1 _ _
  have hx14 : w14.heap[w13.heap.size]? = some (.cells #[.bool xx, .int .i64 3, .bool xr, .int .i64 xn, .slice xa xm xc] 30) := by rw [← hw14]; exact World.alloc_heap_new _ _
  rw [hw14]
  clear hw14
  have hT14 := below_then hT13 hB14
  have ha14 := block_below hB14 ha13
  have hn414 := NIs.to hn413 hB14
  clear hT13 ha13 hn413 hB14
  refine (sent_c (N := hN3) hn414 (okN_of hq6.2.2.1) (out_up (lt_cons (Array.getElem?_eq_some_iff.1 ha14).1 (fun _ h => by cases h))) true hM1 hq3.2.2.1).mono ?_
  rintro e w15 ⟨m1, rfl, hm1_, hB15⟩
  have hT15 := below_then hT14 hB15
  have ha15 := block_below hB15 ha14
  have hx15 := block_below hB15 hx14
  have hn415 := NIs.to hn414 hB15
  clear hT14 ha14 hx14 hn414 hB15
  have hm115 := hm1_
  clear hm1_
  clear hn415
  have hla := (Array.getElem?_eq_some_iff.1 ha15).1
  obtain ⟨ac0, ac1, ac2, ac3, ac4, ac5, ac6⟩ := cells7' ha15
  have hlx := (Array.getElem?_eq_some_iff.1 hx15).1
  obtain ⟨xc0, xc1, xc2, xc3, xc4⟩ := cells5' hx15
  go_wp2_with fail
  clear hla ac0 ac1 ac2 ac3 ac4 ac5 ac6 hlx xc0 xc1 xc2 xc3 xc4
  replace hm115 := hm115.mono (out_cons (L := [w2.heap.size]) (X := w15.heap.size) (Nat.le_refl _))
  have hgem : w.heap.size ≤ w15.heap.size := hT15.size
  have Ha_m := Lib.hid (show w2.heap.size ≠ w15.heap.size from Nat.ne_of_lt (Array.getElem?_eq_some_iff.1 ha15).1)
  have Hm_a := Lib.hid (show w15.heap.size ≠ w2.heap.size from Ne.symm Ha_m.out)
  have Hx_m := Lib.hid (show w13.heap.size ≠ w15.heap.size from Nat.ne_of_lt (Array.getElem?_eq_some_iff.1 hx15).1)
  have Hm_x := Lib.hid (show w15.heap.size ≠ w13.heap.size from Ne.symm Hx_m.out)
  obtain ⟨w16, hw16⟩ : ∃ w16, w15.alloc (.cells #[.slice m1.qa m1.qm m1.qc, .slice m1.la m1.lm m1.lc, .int .i64 m1.k.t, .int .i64 m1.k.r, .int .i64 m1.k.s, .int .i64 m1.k.q, .slice m1.ga m1.gm m1.gc] 27) = w16 := ⟨_, rfl⟩
  have hB16 : Below w15.heap.size w15 w16 := by rw [← hw16]; exact below_alloc1 _ _
  have hm16 : w16.heap[w15.heap.size]? = some (.cells #[.slice m1.qa m1.qm m1.qc, .slice m1.la m1.lm m1.lc, .int .i64 m1.k.t, .int .i64 m1.k.r, .int .i64 m1.k.s, .int .i64 m1.k.q, .slice m1.ga m1.gm m1.gc] 27) := by rw [← hw16]; exact World.alloc_heap_new _ _
  rw [hw16]
  clear hw16
  have hT16 := below_then hT15 hB16
  have ha16 := block_below hB16 ha15
  have hx16 := block_below hB16 hx15
  have hm116 := NIs.to hm115 hB16
  clear hT15 ha15 hx15 hm115 hB16
  refine (next_c (N := hM1) hm116 (okN_of hq6.2.2.2.1) true hq3.2.2.2.1 (fOf 5) hq3.2.2.2.2).mono ?_
  rintro e w17 ⟨y, rfl, hy_, hB17⟩
  have hT17 := below_then hT16 hB17
  have ha17 := block_below hB17 ha16
  have hx17 := block_below hB17 hx16
  have hm17 := block_below hB17 hm16
  have hm117 := NIs.to hm116 hB17
  clear hT16 ha16 hx16 hm16 hm116 hB17
  have hy17 := hy_
  clear hy_
  obtain ⟨yx, yi, yr, yn, ya, ym, yc⟩ := y
  obtain rfl : yi = 5 := hy17.i
  clear hy17
  have hla := (Array.getElem?_eq_some_iff.1 ha17).1
  obtain ⟨ac0, ac1, ac2, ac3, ac4, ac5, ac6⟩ := cells7' ha17
  have hlx := (Array.getElem?_eq_some_iff.1 hx17).1
  obtain ⟨xc0, xc1, xc2, xc3, xc4⟩ := cells5' hx17
  have hlm := (Array.getElem?_eq_some_iff.1 hm17).1
  obtain ⟨mc0, mc1, mc2, mc3, mc4, mc5, mc6⟩ := cells7' hm17
  go_wp2_with fail
  clear hla ac0 ac1 ac2 ac3 ac4 ac5 ac6 hlx xc0 xc1 xc2 xc3 xc4 hlm mc0 mc1 mc2 mc3 mc4 mc5 mc6
  have hgey : w.heap.size ≤ w17.heap.size := hT17.size
  have Ha_y := Lib.hid (show w2.heap.size ≠ w17.heap.size from Nat.ne_of_lt (Array.getElem?_eq_some_iff.1 ha17).1)
  have Hy_a := Lib.hid (show w17.heap.size ≠ w2.heap.size from Ne.symm Ha_y.out)
  have Hx_y := Lib.hid (show w13.heap.size ≠ w17.heap.size from Nat.ne_of_lt (Array.getElem?_eq_some_iff.1 hx17).1)
  have Hy_x := Lib.hid (show w17.heap.size ≠ w13.heap.size from Ne.symm Hx_y.out)
  have Hm_y := Lib.hid (show w15.heap.size ≠ w17.heap.size from Nat.ne_of_lt (Array.getElem?_eq_some_iff.1 hm17).1)
  have Hy_m := Lib.hid (show w17.heap.size ≠ w15.heap.size from Ne.symm Hm_y.out)
  obtain ⟨w18, hw18⟩ : ∃ w18, w17.alloc (.cells #[.bool yx, .int .i64 5, .bool yr, .int .i64 yn, .slice ya ym yc] 30) = w18 := ⟨_, rfl⟩
  have hB18 : Below w17.heap.size w17 w18 := by rw [← hw18]; exact below_alloc1 _ _
  have hy18 : w18.heap[w17.heap.size]? = some (.cells #[.bool yx, .int .i64 5, .bool yr, .int .i64 yn, .slice ya ym yc] 30) := by rw [← hw18]; exact World.alloc_heap_new _ _
  rw [hw18]
  clear hw18
  have hT18 := below_then hT17 hB18
  have ha18 := block_below hB18 ha17
  have hx18 := block_below hB18 hx17
  have hm18 := block_below hB18 hm17
  have hm118 := NIs.to hm117 hB18
  clear hT17 ha17 hx17 hm17 hm117 hB18
  refine (heard_c (N := hM1) (F := fOf 6) (f := fvOf 6) hm118 (fis_lit _ _ _ _) (okN_of hq6.2.2.2.1) hq7.1 (out_up (lt_cons (Array.getElem?_eq_some_iff.1 hm18).1 (lt_cons (Array.getElem?_eq_some_iff.1 ha18).1 (fun _ h => by cases h)))) true false hM2 hq4.1).mono ?_
  rintro e w19 ⟨m2, rfl, hm2_, hB19⟩
  have hT19 := below_then hT18 hB19
  have ha19 := block_below hB19 ha18
  have hx19 := block_below hB19 hx18
  have hm19 := block_below hB19 hm18
  have hy19 := block_below hB19 hy18
  have hm119 := NIs.to hm118 hB19
  clear hT18 ha18 hx18 hm18 hy18 hm118 hB19
  have hm219 := hm2_
  clear hm2_
  clear hm119
  have hla := (Array.getElem?_eq_some_iff.1 ha19).1
  obtain ⟨ac0, ac1, ac2, ac3, ac4, ac5, ac6⟩ := cells7' ha19
  have hlx := (Array.getElem?_eq_some_iff.1 hx19).1
  obtain ⟨xc0, xc1, xc2, xc3, xc4⟩ := cells5' hx19
  have hlm := (Array.getElem?_eq_some_iff.1 hm19).1
  obtain ⟨mc0, mc1, mc2, mc3, mc4, mc5, mc6⟩ := cells7' hm19
  have hly := (Array.getElem?_eq_some_iff.1 hy19).1
  obtain ⟨yc0, yc1, yc2, yc3, yc4⟩ := cells5' hy19
  go_wp2_with fail
  clear hla ac0 ac1 ac2 ac3 ac4 ac5 ac6 hlx xc0 xc1 xc2 xc3 xc4 hlm mc0 mc1 mc2 mc3 mc4 mc5 mc6 hly yc0 yc1 yc2 yc3 yc4
  refine (heard_c (N := hM2) (F := fOf 2) (f := fvOf 2) hm219 (fis_lit _ _ _ _) (okN_of hq6.2.2.2.2.1) hq7.2.1 (out_up (lt_cons (Array.getElem?_eq_some_iff.1 hm19).1 (lt_cons (Array.getElem?_eq_some_iff.1 ha19).1 (fun _ h => by cases h)))) true false hM3 hq4.2.1).mono ?_
  rintro e w20 ⟨m3, rfl, hm3_, hB20⟩
  have hT20 := below_then hT19 hB20
  have ha20 := block_below hB20 ha19
  have hx20 := block_below hB20 hx19
  have hm20 := block_below hB20 hm19
  have hy20 := block_below hB20 hy19
  have hm220 := NIs.to hm219 hB20
  clear hT19 ha19 hx19 hm19 hy19 hm219 hB20
  have hm320 := hm3_
  clear hm3_
  clear hm220
  have hla := (Array.getElem?_eq_some_iff.1 ha20).1
  obtain ⟨ac0, ac1, ac2, ac3, ac4, ac5, ac6⟩ := cells7' ha20
  have hlx := (Array.getElem?_eq_some_iff.1 hx20).1
  obtain ⟨xc0, xc1, xc2, xc3, xc4⟩ := cells5' hx20
  have hlm := (Array.getElem?_eq_some_iff.1 hm20).1
  obtain ⟨⟨mc0, mc1, mc2, mc3, mc4, mc5, mc6⟩, mf0, mf1, mf2, mf3, mf4, mf5, mf6⟩ := cells7 hm20
  have hly := (Array.getElem?_eq_some_iff.1 hy20).1
  obtain ⟨yc0, yc1, yc2, yc3, yc4⟩ := cells5' hy20
  go_wp2_with fail
  clear hla ac0 ac1 ac2 ac3 ac4 ac5 ac6 hlx xc0 xc1 xc2 xc3 xc4 hlm mc0 mc1 mc2 mc3 mc4 mc5 mc6 mf0 mf1 mf2 mf3 mf4 mf5 mf6 hly yc0 yc1 yc2 yc3 yc4
  obtain ⟨w21, hw21⟩ : ∃ w_, set7 w20 w15.heap.size (.slice m3.qa m3.qm m3.qc) (.slice m3.la m3.lm m3.lc) (.int .i64 m3.k.t) (.int .i64 m3.k.r) (.int .i64 m3.k.s) (.int .i64 m3.k.q) (.slice m3.ga m3.gm m3.gc) = w_ := ⟨_, rfl⟩
  have hG21 : w20.grownBy w21 (some w15.heap.size) := by rw [← hw21]; exact set7_grown _ _ _ _ _ _ _ _ _
  have hT21 := below_g hT20 hG21 hgem
  have ha21 := other_g hG21 ha20 Ha_m.out
  have hx21 := other_g hG21 hx20 Hx_m.out
  have hm21 : w21.heap[w15.heap.size]? = some (.cells #[.slice m3.qa m3.qm m3.qc, .slice m3.la m3.lm m3.lc, .int .i64 m3.k.t, .int .i64 m3.k.r, .int .i64 m3.k.s, .int .i64 m3.k.q, .slice m3.ga m3.gm m3.gc] 27) := by rw [← hw21]; exact set7_obj hm20 _ _ _ _ _ _ _
  have hy21 := other_g hG21 hy20 Hy_m.out
  have hm321 := NIs.grow hm320 hG21 (out_not (by simp))
  have Hsz21 := Lib.hid (show w21.heap.size = w20.heap.size by rw [← hw21]; simp [set7, World.setCell])
  unfold set7 at hw21
  rw [hw21]
  clear hw21 hG21 hT20 ha20 hx20 hm20 hy20 hm320
  refine (heard_c (N := hM3) (F := fOf 7) (f := fvOf 7) hm321 (fis_lit _ _ _ _) (okN_of hq6.2.2.2.2.2.1) hq7.2.2 (out_up (lt_cons (Array.getElem?_eq_some_iff.1 hm21).1 (lt_cons (Array.getElem?_eq_some_iff.1 ha21).1 (fun _ h => by cases h)))) false true hM4 hq4.2.2).mono ?_
  rintro e w22 ⟨m4, rfl, hm4_, hB22⟩
  have hT22 := below_then hT21 hB22
  have ha22 := block_below hB22 ha21
  have hx22 := block_below hB22 hx21
  have hm22 := block_below hB22 hm21
  have hy22 := block_below hB22 hy21
  have hm322 := NIs.to hm321 hB22
  clear hT21 ha21 hx21 hm21 hy21 hm321 hB22
  have hm422 := hm4_
  clear hm4_
  clear hm322
  have hla := (Array.getElem?_eq_some_iff.1 ha22).1
  obtain ⟨ac0, ac1, ac2, ac3, ac4, ac5, ac6⟩ := cells7' ha22
  have hlx := (Array.getElem?_eq_some_iff.1 hx22).1
  obtain ⟨xc0, xc1, xc2, xc3, xc4⟩ := cells5' hx22
  have hlm := (Array.getElem?_eq_some_iff.1 hm22).1
  obtain ⟨mc0, mc1, mc2, mc3, mc4, mc5, mc6⟩ := cells7' hm22
  have hly := (Array.getElem?_eq_some_iff.1 hy22).1
  obtain ⟨yc0, yc1, yc2, yc3, yc4⟩ := cells5' hy22
  go_wp2_with fail
  clear hla ac0 ac1 ac2 ac3 ac4 ac5 ac6 hlx xc0 xc1 xc2 xc3 xc4 hlm mc0 mc1 mc2 mc3 mc4 mc5 mc6 hly yc0 yc1 yc2 yc3 yc4
  refine (take_c (N := hM4) hm422 (okN_of hq6.2.2.2.2.2.2.1) (out_up (lt_cons (Array.getElem?_eq_some_iff.1 hm22).1 (lt_cons (Array.getElem?_eq_some_iff.1 ha22).1 (fun _ h => by cases h)))) hM5 hq5.1 (fOf 6) hq5.2.1 true hq5.2.2).mono ?_
  rintro e w23 ⟨m5, z, rfl, hm5_, hz_, hB23⟩
  have hT23 := below_then hT22 hB23
  have ha23 := block_below hB23 ha22
  have hx23 := block_below hB23 hx22
  have hm23 := block_below hB23 hm22
  have hy23 := block_below hB23 hy22
  have hm423 := NIs.to hm422 hB23
  clear hT22 ha22 hx22 hm22 hy22 hm422 hB23
  have hm523 := hm5_
  clear hm5_
  have hz23 := hz_
  clear hz_
  clear hm423
  obtain ⟨zx, zi, zr, zn, za, zm, zc⟩ := z
  obtain rfl : zi = 6 := hz23.i
  clear hz23
  have hlm := (Array.getElem?_eq_some_iff.1 hm23).1
  obtain ⟨⟨mc0, mc1, mc2, mc3, mc4, mc5, mc6⟩, mf0, mf1, mf2, mf3, mf4, mf5, mf6⟩ := cells7 hm23
  repeat (fail_if_success (simp only [List.append]); first | go_values | go_skip | go_guarded | go_step | go_upon | go_back)
  rename_i hk1_ ha1_ hk2_ ha2_
  refine ha2_ _ _ ?_
  iterate 25 (first | go_values | go_skip | go_guarded | go_step | go_upon | go_back)
  clear hlm mc0 mc1 mc2 mc3 mc4 mc5 mc6 mf0 mf1 mf2 mf3 mf4 mf5 mf6
  obtain ⟨w24, hw24⟩ : ∃ w_, set7 w23 w15.heap.size (.slice m5.qa m5.qm m5.qc) (.slice m5.la m5.lm m5.lc) (.int .i64 m5.k.t) (.int .i64 m5.k.r) (.int .i64 m5.k.s) (.int .i64 m5.k.q) (.slice m5.ga m5.gm m5.gc) = w_ := ⟨_, rfl⟩
  have hG24 : w23.grownBy w24 (some w15.heap.size) := by rw [← hw24]; exact set7_grown _ _ _ _ _ _ _ _ _
  have hT24 := below_g hT23 hG24 hgem
  have ha24 := other_g hG24 ha23 Ha_m.out
  have hx24 := other_g hG24 hx23 Hx_m.out
  have hm24 : w24.heap[w15.heap.size]? = some (.cells #[.slice m5.qa m5.qm m5.qc, .slice m5.la m5.lm m5.lc, .int .i64 m5.k.t, .int .i64 m5.k.r, .int .i64 m5.k.s, .int .i64 m5.k.q, .slice m5.ga m5.gm m5.gc] 27) := by rw [← hw24]; exact set7_obj hm23 _ _ _ _ _ _ _
  have hy24 := other_g hG24 hy23 Hy_m.out
  have hm524 := NIs.grow hm523 hG24 (out_not (by simp))
  have Hsz24 := Lib.hid (show w24.heap.size = w23.heap.size by rw [← hw24]; simp [set7, World.setCell])
  unfold set7 at hw24
  rw [hw24]
  clear hw24 hG24 hT23 ha23 hx23 hm23 hy23 hm523
  have hgez : w.heap.size ≤ w24.heap.size := hT24.size
  have Ha_z := Lib.hid (show w2.heap.size ≠ w24.heap.size from Nat.ne_of_lt (Array.getElem?_eq_some_iff.1 ha24).1)
  have Hz_a := Lib.hid (show w24.heap.size ≠ w2.heap.size from Ne.symm Ha_z.out)
  have Hx_z := Lib.hid (show w13.heap.size ≠ w24.heap.size from Nat.ne_of_lt (Array.getElem?_eq_some_iff.1 hx24).1)
  have Hz_x := Lib.hid (show w24.heap.size ≠ w13.heap.size from Ne.symm Hx_z.out)
  have Hm_z := Lib.hid (show w15.heap.size ≠ w24.heap.size from Nat.ne_of_lt (Array.getElem?_eq_some_iff.1 hm24).1)
  have Hz_m := Lib.hid (show w24.heap.size ≠ w15.heap.size from Ne.symm Hm_z.out)
  have Hy_z := Lib.hid (show w17.heap.size ≠ w24.heap.size from Nat.ne_of_lt (Array.getElem?_eq_some_iff.1 hy24).1)
  have Hz_y := Lib.hid (show w24.heap.size ≠ w17.heap.size from Ne.symm Hy_z.out)
  obtain ⟨w25, hw25⟩ : ∃ w25, w24.alloc (.cells #[.bool zx, .int .i64 6, .bool zr, .int .i64 zn, .slice za zm zc] 30) = w25 := ⟨_, rfl⟩
  have hB25 : Below w24.heap.size w24 w25 := by rw [← hw25]; exact below_alloc1 _ _
  have hz25 : w25.heap[w24.heap.size]? = some (.cells #[.bool zx, .int .i64 6, .bool zr, .int .i64 zn, .slice za zm zc] 30) := by rw [← hw25]; exact World.alloc_heap_new _ _
  rw [hw25]
  clear hw25
  have hT25 := below_then hT24 hB25
  have ha25 := block_below hB25 ha24
  have hx25 := block_below hB25 hx24
  have hm25 := block_below hB25 hm24
  have hy25 := block_below hB25 hy24
  have hm525 := NIs.to hm524 hB25
  clear hT24 ha24 hx24 hm24 hy24 hm524 hB25
  rw [Hsz24.out] at hz25
  show hk1_ _ _
  refine ha1_ _ _ ?_
  have em := hm525.k
  have eg := hm525.g.len
  obtain ⟨qa, qm, qc, la, lm, lc, mk, ga, gm, gc⟩ := m5
  dsimp only at em eg
  obtain rfl : mk = ⟨0, 8, 1, 0⟩ := em
  obtain rfl : gm = 0 := eg.symm
  clear eg
  dsimp only at hm25
  have hla := (Array.getElem?_eq_some_iff.1 ha25).1
  obtain ⟨ac0, ac1, ac2, ac3, ac4, ac5, ac6⟩ := cells7' ha25
  have hlx := (Array.getElem?_eq_some_iff.1 hx25).1
  obtain ⟨xc0, xc1, xc2, xc3, xc4⟩ := cells5' hx25
  have hlm := (Array.getElem?_eq_some_iff.1 hm25).1
  obtain ⟨mc0, mc1, mc2, mc3, mc4, mc5, mc6⟩ := cells7' hm25
  have hly := (Array.getElem?_eq_some_iff.1 hy25).1
  obtain ⟨yc0, yc1, yc2, yc3, yc4⟩ := cells5' hy25
  have hlz := (Array.getElem?_eq_some_iff.1 hz25).1
  obtain ⟨zc0, zc1, zc2, zc3, zc4⟩ := cells5' hz25
  simp only [List.append]
  go_wp2_with fail
  clear hla ac0 ac1 ac2 ac3 ac4 ac5 ac6 hlx xc0 xc1 xc2 xc3 xc4 hlm mc0 mc1 mc2 mc3 mc4 mc5 mc6 hly yc0 yc1 yc2 yc3 yc4 hlz zc0 zc1 zc2 zc3 zc4
  refine (right_c hm525 true hq6.2.2.2.2.2.2.2.1).mono ?_
  rintro e w26 ⟨rfl, hB26⟩
  have hT26 := below_then hT25 hB26
  have ha26 := block_below hB26 ha25
  have hx26 := block_below hB26 hx25
  have hm26 := block_below hB26 hm25
  have hy26 := block_below hB26 hy25
  have hz26 := block_below hB26 hz25
  have hm526 := NIs.to hm525 hB26
  clear hT25 ha25 hx25 hm25 hy25 hz25 hm525 hB26
  have hla := (Array.getElem?_eq_some_iff.1 ha26).1
  obtain ⟨ac0, ac1, ac2, ac3, ac4, ac5, ac6⟩ := cells7' ha26
  have hlx := (Array.getElem?_eq_some_iff.1 hx26).1
  obtain ⟨xc0, xc1, xc2, xc3, xc4⟩ := cells5' hx26
  have hlm := (Array.getElem?_eq_some_iff.1 hm26).1
  obtain ⟨mc0, mc1, mc2, mc3, mc4, mc5, mc6⟩ := cells7' hm26
  have hly := (Array.getElem?_eq_some_iff.1 hy26).1
  obtain ⟨yc0, yc1, yc2, yc3, yc4⟩ := cells5' hy26
  have hlz := (Array.getElem?_eq_some_iff.1 hz26).1
  obtain ⟨zc0, zc1, zc2, zc3, zc4⟩ := cells5' hz26
  go_wp2_with fail
  clear hla ac0 ac1 ac2 ac3 ac4 ac5 ac6 hlx xc0 xc1 xc2 xc3 xc4 hlm mc0 mc1 mc2 mc3 mc4 mc5 mc6 hly yc0 yc1 yc2 yc3 yc4 hlz zc0 zc1 zc2 zc3 zc4
  refine (right_c (n := zeroNV) (N := zeroN) (P := fun _ => True) nis_zero false hq6.2.2.2.2.2.2.2.2).mono ?_
  rintro e w27 ⟨rfl, hB27⟩
  have hT27 := below_then hT26 hB27
  have ha27 := block_below hB27 ha26
  have hx27 := block_below hB27 hx26
  have hm27 := block_below hB27 hm26
  have hy27 := block_below hB27 hy26
  have hz27 := block_below hB27 hz26
  have hm527 := NIs.to hm526 hB27
  clear hT26 ha26 hx26 hm26 hy26 hz26 hm526 hB27
  have hla := (Array.getElem?_eq_some_iff.1 ha27).1
  obtain ⟨ac0, ac1, ac2, ac3, ac4, ac5, ac6⟩ := cells7' ha27
  have hlx := (Array.getElem?_eq_some_iff.1 hx27).1
  obtain ⟨xc0, xc1, xc2, xc3, xc4⟩ := cells5' hx27
  have hlm := (Array.getElem?_eq_some_iff.1 hm27).1
  obtain ⟨mc0, mc1, mc2, mc3, mc4, mc5, mc6⟩ := cells7' hm27
  have hly := (Array.getElem?_eq_some_iff.1 hy27).1
  obtain ⟨yc0, yc1, yc2, yc3, yc4⟩ := cells5' hy27
  have hlz := (Array.getElem?_eq_some_iff.1 hz27).1
  obtain ⟨zc0, zc1, zc2, zc3, zc4⟩ := cells5' hz27
  go_wp2_with fail
  go_ret
  exact ⟨rfl, hT27⟩

end Go.Proofs.Ytlbgilbigcnleaa
