/-
  WBusWaits.
-/
import Derived.Test.YtcifjccojmfpaaaGreatJ0
import Derived.Test.YtcifjccojmfpaaaGreatJ1
import Derived.Test.YtcifjccojmfpaaaGreatJ2
import Derived.Test.YtcifjccojmfpaaaGreatJ3
import Derived.Test.YtcifjccojmfpaaaGreatJ4
import Derived.Test.YtcifjccojmfpaaaGreatJ5
import Derived.Test.YtcifjccojmfpaaaGreatJ8
import Derived.Test.YtcifjccojmfpaaaGreatJ9
set_option maxRecDepth 100000
set_option maxHeartbeats 4000000
namespace Go.Proofs.YtcifjccojmfpaaaGreat
open Go.RowKit
set_option linter.unusedVariables false
set_option linter.unusedSimpArgs false
theorem busWaits_any (hHd : Head10) (A : Option Addr) (n c : Nat) (Ns : List NC) (x : HV) (H0 : List Int) (w : World) (h : NSl w (fun _ => True) A n c Ns) (hh : HIs w (fun _ => True) x H0) :
    Calls Tryz.prog 5 #[.slice A n c, .agg #[.slice x.a x.m x.c]] w fun e w' => e = .returned (.bool true) ∧ Below w.heap.size w w' := by
  have h0 : NSl w (Out [w.heap.size]) A n c Ns := h.mono out_low10
  have hh0 : HIs w (Out [w.heap.size]) x H0 := hh.mono out_low10
  clear h hh
  obtain ⟨w0, hw0⟩ : ∃ w0, (w.alloc (.cells #[.slice x.a x.m x.c] 41)) = w0 := ⟨_, rfl⟩
  have hT0 : Below w.heap.size w w0 := by rw [← hw0]; exact below_alloc1 _ _
  have hx0 : w0.heap[w.heap.size]? = some (.cells #[.slice x.a x.m x.c] 41) := by rw [← hw0]; exact World.alloc_heap_new _ _
  have hs0 : w0.heap.size = w.heap.size + 1 := by rw [← hw0]; simp
  have Hs0 := Lib.hid hs0
  clear hs0
  have hlx := (Array.getElem?_eq_some_iff.1 hx0).1
  have xc0 := cells1' hx0
  go_enter Tryz.func5, Tryz.ntmps5
  go_wp2_with fail
  clear hlx xc0
  clear hw0
  have hZ0 := Below.refl w0.heap.size w0
  clear hZ0
  clear Hs0
  refine (hHd.run w0).mono ?_
  rintro e w1 ⟨rfl, hB1⟩
  have hT1 := below_then hT0 hB1
  have hx1 := block_below hB1 hx0
  clear hT0 hx0  hB1
  go_wp2_with fail
  refine (nodes10_c (Q := Out [w.heap.size]) (h0.to hT1) 5 (by decide) (out_up (lt_cons (Array.getElem?_eq_some_iff.1 hx1).1 (fun _ h => by cases h)))).mono ?_
  rintro e w2 ⟨A1, m1, c1, Ms, rfl, hM_, hok, hm1, hm8, hql, hB2⟩
  have hT2 := below_then hT1 hB2
  have hx2 := block_below hB2 hx1
  clear hT1 hx1  hB2
  have hM2 := hM_
  clear hM_
  have Hok := Lib.hid hok
  have Hql := Lib.hid hql
  have Hml := Lib.hid hM2.len
  clear hok hql
  have hlx := (Array.getElem?_eq_some_iff.1 hx2).1
  have xc0 := cells1' hx2
  go_wp2_with fail
  clear hlx xc0
  have hlit : HSl (w2.alloc (.cells #[.slice x.a x.m x.c] 41)) (Out [w.heap.size]) (some ⟨w2.heap.size, 0, none⟩) 1 1 [H0] := hsl_lit10 (hh0.to hT2)
  obtain ⟨w3, hw3⟩ : ∃ w_, w2.alloc (.cells #[.slice x.a x.m x.c] 41) = w_ := ⟨_, rfl⟩
  have hB3 : Below w2.heap.size w2 w3 := by rw [← hw3]; exact below_alloc1 _ _
  rw [hw3] at hlit
  rw [hw3]
  clear hw3
  have hT3 := below_then hT2 hB3
  have hx3 := block_below hB3 hx2
  have hM3 := NSl.to hM2 hB3
  clear hT2 hx2 hM2 hB3
  refine (cut_c (Q := Out [w.heap.size]) hlit 1 (by decide) (out_up (lt_cons (Array.getElem?_eq_some_iff.1 hx3).1 (fun _ h => by cases h)))).mono ?_
  rintro e w4 ⟨B1, k1, d1, Ks, rfl, hK_, hk1, hk2, hks, hB4⟩
  have hT4 := below_then hT3 hB4
  have hx4 := block_below hB4 hx3
  have hM4 := NSl.to hM3 hB4
  clear hT3 hx3 hM3 hB4
  obtain rfl : k1 = 1 := by omega
  obtain ⟨adk, y, ea_, hce_, hY_⟩ := HSl.at_ hK_ (k := 0) (by decide)
  subst ea_
  obtain ⟨K, hKe⟩ : ∃ K, Ks.getD 0 [] = K := ⟨_, rfl⟩
  rw [hKe] at hY_
  have hK10 : K.length ≤ 10 := by rw [← hKe]; exact hks _ (List.mem_of_getElem? (show Ks[0]? = some (Ks.getD 0 []) by simp [List.getD, List.getElem?_eq_getElem (show 0 < Ks.length by rw [hK_.len]; decide)]))
  clear hk1 hk2 hks hKe hK_ hlit
  rw [Nat.zero_mul, add_zero] at hce_
  have hlx := (Array.getElem?_eq_some_iff.1 hx4).1
  obtain ⟨xc0, xf0⟩ := cells1 hx4
  go_upto_region 4 with fail
  clear hlx xc0 xf0 hce_
  obtain ⟨w5, hw5⟩ : ∃ w_, w4.setCell ⟨w.heap.size, 0, none⟩ (.slice y.a y.m y.c) = w_ := ⟨_, rfl⟩
  have hG : w4.grownBy w5 (some w.heap.size) := by rw [← hw5]; exact grown_setAt _ _ _ _
  have hT5 := below_g hT4 hG (Nat.le_refl _)
  have hx5 : w5.heap[w.heap.size]? = some (.cells #[.slice y.a y.m y.c] 41) := by rw [← hw5]; exact set0_obj1 hx4 _
  have hM5 := NSl.grow hM4 hG (out_not (by simp))
  have hY5 := HIs.grow hY_ hG (out_not (by simp))
  rw [hw5]
  clear hw5 hG hT4 hx4 hM4 hY_
  have hlx := (Array.getElem?_eq_some_iff.1 hx5).1
  have xc0 := cells1' hx5
  go_wp2_with fail
  clear hlx xc0
  obtain ⟨Ns2, hNs2⟩ : ∃ q, slotN Ms K = q := ⟨_, rfl⟩
  have HNs2 := Lib.hid hNs2
  clear hNs2
  obtain ⟨T1, hT1⟩ : ∃ q, toldN lenZ Ms K = q := ⟨_, rfl⟩
  have HT1 := Lib.hid hT1
  clear hT1
  refine (slot_c hM5 Hok.out hm1 hm8 hY5.row hY5.len (by rw [← hY5.len]; omega) (out_up (lt_cons (Array.getElem?_eq_some_iff.1 hx5).1 (fun _ h => by cases h))) Ns2 HNs2.out T1 HT1.out).mono ?_
  rintro e w6 ⟨A2, c2, t, rfl, hu_, ht_, hB6⟩
  have hT6 := below_then hT5 hB6
  have hx6 := block_below hB6 hx5
  have hM6 := NSl.to hM5 hB6
  have hY6 := HIs.to hY5 hB6
  clear hT5 hx5 hM5 hY5 hB6
  have hu6 := hu_
  clear hu_
  have ht6 := ht_
  clear ht_
  go_upto_region 5 with fail
  obtain ⟨w7, hw7⟩ : ∃ w_, w6.alloc (.cells #[.int .i64 t.w, .bool t.f.x, .int .i64 t.f.i, .bool t.f.r, .int .i64 t.f.n, .slice t.f.a t.f.m t.f.c, .bool t.ok, .int .i64 t.b] 36) = w_ := ⟨_, rfl⟩
  have hB7 : Below w6.heap.size w6 w7 := by rw [← hw7]; exact below_alloc1 _ _
  obtain ⟨Z, hZ_⟩ : ∃ Z, w6.heap.size = Z := ⟨_, rfl⟩
  have hz7 : w7.heap[Z]? = some (.cells #[.int .i64 t.w, .bool t.f.x, .int .i64 t.f.i, .bool t.f.r, .int .i64 t.f.n, .slice t.f.a t.f.m t.f.c, .bool t.ok, .int .i64 t.b] 36) := by rw [← hw7, ← hZ_]; exact World.alloc_heap_new _ _
  rw [hw7]
  rw [hZ_]
  clear hw7
  have hT7 := below_then hT6 hB7
  have hx7 := block_below hB7 hx6
  have hM7 := NSl.to hM6 hB7
  have hY7 := HIs.to hY6 hB7
  have hu7 := NSl.to hu6 hB7
  have ht7 := TIs.to ht6 hB7
  clear hT6 hx6 hM6 hY6 hu6 ht6 hB7
  obtain ⟨tw, tf, tok, tb⟩ := t
  replace hM7 := NSl.mono (Q := fun _ => True) hM7 (fun _ _ _ => trivial)
  replace hu7 := NSl.mono (Q := fun _ => True) hu7 (fun _ _ _ => trivial)
  replace hY7 := HIs.mono (Q := fun _ => True) hY7 (fun _ _ _ => trivial)
  replace ht7 := TIs.mono (Q := fun _ => True) ht7 (fun _ _ _ => trivial)
  go_wp2_with fail
  obtain ⟨wn, hwn⟩ : ∃ q, winN Ms = q := ⟨_, rfl⟩
  have Hwn := Lib.hid hwn
  clear hwn
  refine (winner_c hM7 Hok.out (by omega) wn Hwn.out).mono ?_
  rintro e w8 ⟨rfl, hB8⟩
  have hT8 := below_then hT7 hB8
  have hx8 := block_below hB8 hx7
  have hz8 := block_below hB8 hz7
  have hM8 := NSl.to hM7 hB8
  have hY8 := HIs.to hY7 hB8
  have hu8 := NSl.to hu7 hB8
  have ht8 := TIs.to ht7 hB8
  clear hT7 hx7 hz7 hM7 hY7 hu7 ht7 hB8
  have hwin := ht8.win
  have hokk := ht8.ok
  have hbb := ht8.b
  dsimp only at hwin hokk hbb
  obtain rfl : tw = wn := by rw [hwin, ← HT1.out, told_w]; exact Hwn.out
  have Hokk := Lib.hid hokk
  have Hbb := Lib.hid hbb
  clear hwin hokk hbb
  have d1 : (tw != tw) = false := by simp
  cases tok
  · skip
    have hlz := (Array.getElem?_eq_some_iff.1 hz8).1
    obtain ⟨zc0, zc1, zc2, zc3, zc4, zc5, zc6, zc7⟩ := cells8' hz8
    go_wp2_with fail
    clear hlz zc0 zc1 zc2 zc3 zc4 zc5 zc6 zc7
    go_loopw [9] (fun i wr => ∃ (j : Nat), j ≤ m1 ∧ i = .int .i64 j ∧ wr.heap[Z]? = some (.cells #[.int .i64 tw, .bool tf.x, .int .i64 tf.i, .bool tf.r, .int .i64 tf.n, .slice tf.a tf.m tf.c, .bool false, .int .i64 tb] 36) ∧ NSl wr (fun _ => True) A1 m1 c1 Ms ∧ NSl wr (fun _ => True) A2 m1 c2 Ns2 ∧ TIs wr (fun _ => True) ⟨tw, tf, false, tb⟩ T1 ∧ Below w.heap.size w wr) (fun i _ => m1 - (intOf i).toNat)
    case atStart => exact ⟨0, Nat.zero_le _, rfl, hz8, hM8, hu8, ht8, hT8⟩
    case round =>
      clear hx8 hY8 hz8 hM8 hu8 ht8 hT8
      obtain ⟨j, hj, rfl, hz50, hM50, hu50, ht50, hT50⟩ := hrel
      by_cases hlt : j < m1
      · skip
        have j1 : (j : Int) < (m1 : Int) := by omega
        obtain ⟨ad, m, ea1, hAt50, hV50⟩ := NSl.at_ hM50 hlt
        obtain ⟨ad2, m2, ea2, hAx50, hVx50⟩ := NSl.at_ hu50 hlt
        subst ea1 ea2
        obtain ⟨N, hN_⟩ : ∃ N_, nd Ms j = N_ := ⟨_, rfl⟩
        replace hV50 : NIs wr (fun _ => True) m N := by rw [← hN_]; exact hV50
        have HN := Lib.hid hN_
        clear hN_
        have Hlt := Lib.hid (show j < Ms.length by rw [Hml.out]; exact hlt)
        have HokN := Lib.hid (show OkN N by rw [← HN.out]; exact Hok.out.at_ Hlt.out)
        have hsq := Lib.hid (slot_q K Hlt.out)
        rw [HNs2.out, HT1.out, show nd Ms j = N from HN.out, ← Hokk.out] at hsq
        have Hqe := Lib.hid (show (nd Ns2 j).q = N.q by rw [hsq.out]; rfl)
        have hlz := (Array.getElem?_eq_some_iff.1 hz50).1
        obtain ⟨zc0, zc1, zc2, zc3, zc4, zc5, zc6, zc7⟩ := cells8' hz50
        have tAt_ := hAt50
        obtain ⟨At0, At1, At2, At3, At4, At5, At6⟩ := tAt_
        have tAx_ := hAx50
        obtain ⟨Ax0, Ax1, Ax2, Ax3, Ax4, Ax5, Ax6⟩ := tAx_
        go_wp2_with fail
        clear At0 At1 At2 At3 At4 At5 At6 Ax0 Ax1 Ax2 Ax3 Ax4 Ax5 Ax6
        clear hlz zc0 zc1 zc2 zc3 zc4 zc5 zc6 zc7
        refine (sameAll_c hVx50.q hV50.q true (by rw [show (nd Ns2 j).q = N.q from Hqe.out]; unfold sameFs; simp)).mono ?_
        rintro e w51 ⟨rfl, hB51⟩
        have hT51 := below_then hT50 hB51
        have hz51 := block_below hB51 hz50
        have hM51 := NSl.to hM50 hB51
        have hu51 := NSl.to hu50 hB51
        have ht51 := TIs.to ht50 hB51
        have hAt51 := nat_to hAt50 hB51
        have hV51 := NIs.to hV50 hB51
        have hAx51 := nat_to hAx50 hB51
        have hVx51 := NIs.to hVx50 hB51
        clear hT50 hz50 hM50 hu50 ht50 hAt50 hV50 hAx50 hVx50 hB51
        go_wp2_with fail
        go_round
        case measure => simp [intOf]; omega
        exact ⟨j + 1, by omega, by go_num, hz51, hM51, hu51, ht51, hT51⟩
      obtain rfl : j = m1 := by omega
      have j1 : ¬ (j : Int) < (j : Int) := by omega
      by_cases hneg : tw < 0
      · skip
        have e_ := HT1.out
        rw [told_none K (by rw [Hwn.out]; exact hneg)] at e_
        subst e_
        obtain rfl : tb = 11 := Hbb.out
        have hff := ht50.f
        dsimp only at hff
        have Hff := Lib.hid hff
        clear hff
        have hlz := (Array.getElem?_eq_some_iff.1 hz50).1
        obtain ⟨zc0, zc1, zc2, zc3, zc4, zc5, zc6, zc7⟩ := cells8' hz50
        go_wp2_with fail
        clear hlz zc0 zc1 zc2 zc3 zc4 zc5 zc6 zc7
        refine (refFrSame_c (F := zeroF) (G := zeroF) (g := zeroFV) Hff.out (fis_zero (P := fun _ => True)) true (by decide)).mono ?_
        rintro e w51 ⟨rfl, hB51⟩
        have hT51 := below_then hT50 hB51
        have hz51 := block_below hB51 hz50
        have hM51 := NSl.to hM50 hB51
        have hu51 := NSl.to hu50 hB51
        have ht51 := TIs.to ht50 hB51
        clear hT50 hz50 hM50 hu50 ht50 hB51
        go_wp2_with fail
        go_ret
        exact ⟨rfl, hT51⟩
      obtain ⟨a, i_, hwa, han, hpi, hoi, hah, hwf⟩ := winPos_at (show 0 ≤ winN Ms by rw [Hwn.out]; omega)
      obtain rfl : tw = (a : Int) := by rw [← Hwn.out, hwa]
      have han2 : a < j := by rw [← Hml.out]; exact han
      have j2 : (a : Int) < (j : Int) := by omega
      have j3 : ¬ (a : Int) < 0 := by omega
      obtain ⟨ad, m, ea1, hAt50, hV50⟩ := NSl.at_ hM50 han2
      subst ea1
      have Hnx := Lib.hid (show nextF (nd Ms a) = T1.f by rw [← hwf, ← HT1.out, told_some K (by rw [Hwn.out]; omega)])
      have Hah := Lib.hid hah
      have HokN := Lib.hid (Hok.out.at_ han)
      clear hwa han hpi hoi hah hwf
      have tAt_ := hAt50
      obtain ⟨At0, At1, At2, At3, At4, At5, At6⟩ := tAt_
      go_wp2_with fail
      clear At0 At1 At2 At3 At4 At5 At6
      refine (refNext_c hV50 HokN.out true Hah.out T1.f Hnx.out).mono ?_
      rintro e w51 ⟨g, rfl, hg_, hB51⟩
      have hT51 := below_then hT50 hB51
      have hz51 := block_below hB51 hz50
      have hM51 := NSl.to hM50 hB51
      have hu51 := NSl.to hu50 hB51
      have ht51 := TIs.to ht50 hB51
      have hAt51 := nat_to hAt50 hB51
      have hV51 := NIs.to hV50 hB51
      clear hT50 hz50 hM50 hu50 ht50 hAt50 hV50 hB51
      have hg51 := hg_
      clear hg_
      go_upto_region 22 with fail
      obtain ⟨w52, hw52⟩ : ∃ w_, w51.alloc (.cells #[.bool g.x, .int .i64 g.i, .bool g.r, .int .i64 g.n, .slice g.a g.m g.c] 34) = w_ := ⟨_, rfl⟩
      have hB52 : Below w51.heap.size w51 w52 := by rw [← hw52]; exact below_alloc1 _ _
      obtain ⟨Y2, hY2_⟩ : ∃ Z_, w51.heap.size = Z_ := ⟨_, rfl⟩
      have hf52 : w52.heap[Y2]? = some (.cells #[.bool g.x, .int .i64 g.i, .bool g.r, .int .i64 g.n, .slice g.a g.m g.c] 34) := by rw [← hw52, ← hY2_]; exact World.alloc_heap_new _ _
      rw [hw52]
      rw [hY2_]
      clear hw52
      have hT52 := below_then hT51 hB52
      have hz52 := block_below hB52 hz51
      have hM52 := NSl.to hM51 hB52
      have hu52 := NSl.to hu51 hB52
      have ht52 := TIs.to ht51 hB52
      have hAt52 := nat_to hAt51 hB52
      have hV52 := NIs.to hV51 hB52
      have hg52 := FIs.to hg51 hB52
      clear hT51 hz51 hM51 hu51 ht51 hAt51 hV51 hg51 hB52
      have HY2 := Lib.hid hY2_
      clear hY2_
      have hlz := (Array.getElem?_eq_some_iff.1 hz52).1
      obtain ⟨zc0, zc1, zc2, zc3, zc4, zc5, zc6, zc7⟩ := cells8' hz52
      have hlf := (Array.getElem?_eq_some_iff.1 hf52).1
      obtain ⟨fc0, fc1, fc2, fc3, fc4⟩ := cells5' hf52
      go_wp2_with fail
      clear hlz zc0 zc1 zc2 zc3 zc4 zc5 zc6 zc7 hlf fc0 fc1 fc2 fc3 fc4
      refine (refFrSame_c ht52.f hg52 true (by unfold sameF; simp)).mono ?_
      rintro e w53 ⟨rfl, hB53⟩
      have hT53 := below_then hT52 hB53
      have hz53 := block_below hB53 hz52
      have hf53 := block_below hB53 hf52
      have hM53 := NSl.to hM52 hB53
      have hu53 := NSl.to hu52 hB53
      have ht53 := TIs.to ht52 hB53
      have hAt53 := nat_to hAt52 hB53
      have hV53 := NIs.to hV52 hB53
      have hg53 := FIs.to hg52 hB53
      clear hT52 hz52 hf52 hM52 hu52 ht52 hAt52 hV52 hg52 hB53
      go_wp2_with fail
      go_ret
      exact ⟨rfl, hT53⟩
  have hw0 : 0 ≤ tw := by rw [← Hwn.out]; exact (told_ok (H := K) (by rw [HT1.out]; exact Hokk.out.symm)).1
  have j0 : ¬ tw < 0 := by omega
  have hlz := (Array.getElem?_eq_some_iff.1 hz8).1
  obtain ⟨zc0, zc1, zc2, zc3, zc4, zc5, zc6, zc7⟩ := cells8' hz8
  go_wp2_with fail
  clear hlz zc0 zc1 zc2 zc3 zc4 zc5 zc6 zc7
  go_loopw [9] (fun i wr => ∃ (j : Nat), j ≤ m1 ∧ i = .int .i64 j ∧ wr.heap[Z]? = some (.cells #[.int .i64 tw, .bool tf.x, .int .i64 tf.i, .bool tf.r, .int .i64 tf.n, .slice tf.a tf.m tf.c, .bool true, .int .i64 tb] 36) ∧ NSl wr (fun _ => True) A1 m1 c1 Ms ∧ NSl wr (fun _ => True) A2 m1 c2 Ns2 ∧ TIs wr (fun _ => True) ⟨tw, tf, true, tb⟩ T1 ∧ Below w.heap.size w wr) (fun i _ => m1 - (intOf i).toNat)
  case atStart => exact ⟨0, Nat.zero_le _, rfl, hz8, hM8, hu8, ht8, hT8⟩
  case round =>
    clear hx8 hY8 hz8 hM8 hu8 ht8 hT8
    obtain ⟨j, hj, rfl, hz50, hM50, hu50, ht50, hT50⟩ := hrel
    by_cases hlt : j < m1
    · skip
      have j1 : (j : Int) < (m1 : Int) := by omega
      obtain ⟨ad, m, ea1, hAt50, hV50⟩ := NSl.at_ hM50 hlt
      obtain ⟨ad2, m2, ea2, hAx50, hVx50⟩ := NSl.at_ hu50 hlt
      subst ea1 ea2
      obtain ⟨N, hN_⟩ : ∃ N_, nd Ms j = N_ := ⟨_, rfl⟩
      replace hV50 : NIs wr (fun _ => True) m N := by rw [← hN_]; exact hV50
      have HN := Lib.hid hN_
      clear hN_
      have Hlt := Lib.hid (show j < Ms.length by rw [Hml.out]; exact hlt)
      have HokN := Lib.hid (show OkN N by rw [← HN.out]; exact Hok.out.at_ Hlt.out)
      have hsq := Lib.hid (slot_q K Hlt.out)
      rw [HNs2.out, HT1.out, show nd Ms j = N from HN.out, ← Hokk.out] at hsq
      obtain ⟨al, hal⟩ : ∃ q, alongN Ms j = q := ⟨_, rfl⟩
      have Hal := Lib.hid hal
      clear hal
      have hlz := (Array.getElem?_eq_some_iff.1 hz50).1
      obtain ⟨zc0, zc1, zc2, zc3, zc4, zc5, zc6, zc7⟩ := cells8' hz50
      have tAt_ := hAt50
      obtain ⟨At0, At1, At2, At3, At4, At5, At6⟩ := tAt_
      go_wp2_with fail
      clear At0 At1 At2 At3 At4 At5 At6
      clear hlz zc0 zc1 zc2 zc3 zc4 zc5 zc6 zc7
      refine (along_c hM50 Hok.out (by omega) j hlt al Hal.out).mono ?_
      rintro e w51 ⟨rfl, hB51⟩
      have hT51 := below_then hT50 hB51
      have hz51 := block_below hB51 hz50
      have hM51 := NSl.to hM50 hB51
      have hu51 := NSl.to hu50 hB51
      have ht51 := TIs.to ht50 hB51
      have hAt51 := nat_to hAt50 hB51
      have hV51 := NIs.to hV50 hB51
      have hAx51 := nat_to hAx50 hB51
      have hVx51 := NIs.to hVx50 hB51
      clear hT50 hz50 hM50 hu50 ht50 hAt50 hV50 hAx50 hVx50 hB51
      cases al
      · skip
        have Hqe := Lib.hid (show (nd Ns2 j).q = N.q by rw [hsq.out, Hal.out]; rfl)
        have tAt_ := hAt51
        obtain ⟨At0, At1, At2, At3, At4, At5, At6⟩ := tAt_
        have tAx_ := hAx51
        obtain ⟨Ax0, Ax1, Ax2, Ax3, Ax4, Ax5, Ax6⟩ := tAx_
        go_wp2_with fail
        clear At0 At1 At2 At3 At4 At5 At6 Ax0 Ax1 Ax2 Ax3 Ax4 Ax5 Ax6
        refine (sameAll_c hVx51.q hV51.q true (by rw [show (nd Ns2 j).q = N.q from Hqe.out]; unfold sameFs; simp)).mono ?_
        rintro e w52 ⟨rfl, hB52⟩
        have hT52 := below_then hT51 hB52
        have hz52 := block_below hB52 hz51
        have hM52 := NSl.to hM51 hB52
        have hu52 := NSl.to hu51 hB52
        have ht52 := TIs.to ht51 hB52
        have hAt52 := nat_to hAt51 hB52
        have hV52 := NIs.to hV51 hB52
        have hAx52 := nat_to hAx51 hB52
        have hVx52 := NIs.to hVx51 hB52
        clear hT51 hz51 hM51 hu51 ht51 hAt51 hV51 hAx51 hVx51 hB52
        go_wp2_with fail
        go_round
        case measure => simp [intOf]; omega
        exact ⟨j + 1, by omega, by go_num, hz52, hM52, hu52, ht52, hT52⟩
      have Hqe := Lib.hid (show (nd Ns2 j).q = (sentN N true).q by rw [hsq.out, Hal.out]; rfl)
      have Hhas := Lib.hid (show hasN N = true by rw [← HN.out]; exact along_has Hal.out)
      have Hnx := Lib.hid (show nextF N = T1.f by rw [← HN.out, ← HT1.out]; exact along_same Hlt.out (by rw [HT1.out]; exact Hokk.out.symm) Hal.out)
      have tAt_ := hAt51
      obtain ⟨At0, At1, At2, At3, At4, At5, At6⟩ := tAt_
      go_wp2_with fail
      clear At0 At1 At2 At3 At4 At5 At6
      refine (refNext_c hV51 HokN.out true Hhas.out T1.f Hnx.out).mono ?_
      rintro e w52 ⟨g, rfl, hg_, hB52⟩
      have hT52 := below_then hT51 hB52
      have hz52 := block_below hB52 hz51
      have hM52 := NSl.to hM51 hB52
      have hu52 := NSl.to hu51 hB52
      have ht52 := TIs.to ht51 hB52
      have hAt52 := nat_to hAt51 hB52
      have hV52 := NIs.to hV51 hB52
      have hAx52 := nat_to hAx51 hB52
      have hVx52 := NIs.to hVx51 hB52
      clear hT51 hz51 hM51 hu51 ht51 hAt51 hV51 hAx51 hVx51 hB52
      have hg52 := hg_
      clear hg_
      go_upto_region 14 with fail
      obtain ⟨w53, hw53⟩ : ∃ w_, w52.alloc (.cells #[.bool g.x, .int .i64 g.i, .bool g.r, .int .i64 g.n, .slice g.a g.m g.c] 34) = w_ := ⟨_, rfl⟩
      have hB53 : Below w52.heap.size w52 w53 := by rw [← hw53]; exact below_alloc1 _ _
      obtain ⟨Y2, hY2_⟩ : ∃ Z_, w52.heap.size = Z_ := ⟨_, rfl⟩
      have hf53 : w53.heap[Y2]? = some (.cells #[.bool g.x, .int .i64 g.i, .bool g.r, .int .i64 g.n, .slice g.a g.m g.c] 34) := by rw [← hw53, ← hY2_]; exact World.alloc_heap_new _ _
      rw [hw53]
      rw [hY2_]
      clear hw53
      have hT53 := below_then hT52 hB53
      have hz53 := block_below hB53 hz52
      have hM53 := NSl.to hM52 hB53
      have hu53 := NSl.to hu52 hB53
      have ht53 := TIs.to ht52 hB53
      have hAt53 := nat_to hAt52 hB53
      have hV53 := NIs.to hV52 hB53
      have hAx53 := nat_to hAx52 hB53
      have hVx53 := NIs.to hVx52 hB53
      have hg53 := FIs.to hg52 hB53
      clear hT52 hz52 hM52 hu52 ht52 hAt52 hV52 hAx52 hVx52 hg52 hB53
      have HY2 := Lib.hid hY2_
      clear hY2_
      have hlz := (Array.getElem?_eq_some_iff.1 hz53).1
      obtain ⟨zc0, zc1, zc2, zc3, zc4, zc5, zc6, zc7⟩ := cells8' hz53
      have hlf := (Array.getElem?_eq_some_iff.1 hf53).1
      obtain ⟨fc0, fc1, fc2, fc3, fc4⟩ := cells5' hf53
      go_wp2_with fail
      clear hlz zc0 zc1 zc2 zc3 zc4 zc5 zc6 zc7 hlf fc0 fc1 fc2 fc3 fc4
      refine (refFrSame_c hg53 ht53.f true (by unfold sameF; simp)).mono ?_
      rintro e w54 ⟨rfl, hB54⟩
      have hT54 := below_then hT53 hB54
      have hz54 := block_below hB54 hz53
      have hf54 := block_below hB54 hf53
      have hM54 := NSl.to hM53 hB54
      have hu54 := NSl.to hu53 hB54
      have ht54 := TIs.to ht53 hB54
      have hAt54 := nat_to hAt53 hB54
      have hV54 := NIs.to hV53 hB54
      have hAx54 := nat_to hAx53 hB54
      have hVx54 := NIs.to hVx53 hB54
      have hg54 := FIs.to hg53 hB54
      clear hT53 hz53 hf53 hM53 hu53 ht53 hAt53 hV53 hAx53 hVx53 hg53 hB54
      have tAt_ := hAt54
      obtain ⟨At0, At1, At2, At3, At4, At5, At6⟩ := tAt_
      go_wp2_with fail
      clear At0 At1 At2 At3 At4 At5 At6
      refine (refSent_c hV54 HokN.out (fun _ _ => trivial) true (sentN N true) rfl).mono ?_
      rintro e w55 ⟨n3, rfl, hn3_, hB55⟩
      have hT55 := below_then hT54 hB55
      have hz55 := block_below hB55 hz54
      have hM55 := NSl.to hM54 hB55
      have hu55 := NSl.to hu54 hB55
      have ht55 := TIs.to ht54 hB55
      have hAt55 := nat_to hAt54 hB55
      have hV55 := NIs.to hV54 hB55
      have hAx55 := nat_to hAx54 hB55
      have hVx55 := NIs.to hVx54 hB55
      have hg55 := FIs.to hg54 hB55
      clear hT54 hz54 hM54 hu54 ht54 hAt54 hV54 hAx54 hVx54 hg54 hB55
      have hn355 := hn3_
      clear hn3_
      have hfld : ∀ W : World, (Instr.field 49 (NV.v n3) 0).run Tryz.prog W = .ok (.slice n3.qa n3.qm n3.qc) W := fun W => rfl
      have tAx_ := hAx55
      obtain ⟨Ax0, Ax1, Ax2, Ax3, Ax4, Ax5, Ax6⟩ := tAx_
      go_wp2_with fail
      clear Ax0 Ax1 Ax2 Ax3 Ax4 Ax5 Ax6
      clear hfld
      refine (sameAll_c hVx55.q hn355.q true (by rw [show (nd Ns2 j).q = (sentN N true).q from Hqe.out]; unfold sameFs; simp)).mono ?_
      rintro e w56 ⟨rfl, hB56⟩
      have hT56 := below_then hT55 hB56
      have hz56 := block_below hB56 hz55
      have hM56 := NSl.to hM55 hB56
      have hu56 := NSl.to hu55 hB56
      have ht56 := TIs.to ht55 hB56
      have hAt56 := nat_to hAt55 hB56
      have hV56 := NIs.to hV55 hB56
      have hAx56 := nat_to hAx55 hB56
      have hVx56 := NIs.to hVx55 hB56
      have hg56 := FIs.to hg55 hB56
      have hn356 := NIs.to hn355 hB56
      clear hT55 hz55 hM55 hu55 ht55 hAt55 hV55 hAx55 hVx55 hg55 hn355 hB56
      go_wp2_with fail
      go_round
      case measure => simp [intOf]; omega
      exact ⟨j + 1, by omega, by go_num, hz56, hM56, hu56, ht56, hT56⟩
    obtain rfl : j = m1 := by omega
    have j1 : ¬ (j : Int) < (j : Int) := by omega
    obtain ⟨a, i_, hwa, han, hpi, hoi, hah, hwf⟩ := winPos_at (show 0 ≤ winN Ms by rw [Hwn.out]; omega)
    obtain rfl : tw = (a : Int) := by rw [← Hwn.out, hwa]
    have han2 : a < j := by rw [← Hml.out]; exact han
    have j2 : (a : Int) < (j : Int) := by omega
    have j3 : ¬ (a : Int) < 0 := by omega
    obtain ⟨ad, m, ea1, hAt50, hV50⟩ := NSl.at_ hM50 han2
    subst ea1
    have Hnx := Lib.hid (show nextF (nd Ms a) = T1.f by rw [← hwf, ← HT1.out, told_some K (by rw [Hwn.out]; omega)])
    have Hah := Lib.hid hah
    have HokN := Lib.hid (Hok.out.at_ han)
    clear hwa han hpi hoi hah hwf
    have tAt_ := hAt50
    obtain ⟨At0, At1, At2, At3, At4, At5, At6⟩ := tAt_
    go_wp2_with fail
    clear At0 At1 At2 At3 At4 At5 At6
    refine (refNext_c hV50 HokN.out true Hah.out T1.f Hnx.out).mono ?_
    rintro e w51 ⟨g, rfl, hg_, hB51⟩
    have hT51 := below_then hT50 hB51
    have hz51 := block_below hB51 hz50
    have hM51 := NSl.to hM50 hB51
    have hu51 := NSl.to hu50 hB51
    have ht51 := TIs.to ht50 hB51
    have hAt51 := nat_to hAt50 hB51
    have hV51 := NIs.to hV50 hB51
    clear hT50 hz50 hM50 hu50 ht50 hAt50 hV50 hB51
    have hg51 := hg_
    clear hg_
    go_upto_region 22 with fail
    obtain ⟨w52, hw52⟩ : ∃ w_, w51.alloc (.cells #[.bool g.x, .int .i64 g.i, .bool g.r, .int .i64 g.n, .slice g.a g.m g.c] 34) = w_ := ⟨_, rfl⟩
    have hB52 : Below w51.heap.size w51 w52 := by rw [← hw52]; exact below_alloc1 _ _
    obtain ⟨Y2, hY2_⟩ : ∃ Z_, w51.heap.size = Z_ := ⟨_, rfl⟩
    have hf52 : w52.heap[Y2]? = some (.cells #[.bool g.x, .int .i64 g.i, .bool g.r, .int .i64 g.n, .slice g.a g.m g.c] 34) := by rw [← hw52, ← hY2_]; exact World.alloc_heap_new _ _
    rw [hw52]
    rw [hY2_]
    clear hw52
    have hT52 := below_then hT51 hB52
    have hz52 := block_below hB52 hz51
    have hM52 := NSl.to hM51 hB52
    have hu52 := NSl.to hu51 hB52
    have ht52 := TIs.to ht51 hB52
    have hAt52 := nat_to hAt51 hB52
    have hV52 := NIs.to hV51 hB52
    have hg52 := FIs.to hg51 hB52
    clear hT51 hz51 hM51 hu51 ht51 hAt51 hV51 hg51 hB52
    have HY2 := Lib.hid hY2_
    clear hY2_
    have hlz := (Array.getElem?_eq_some_iff.1 hz52).1
    obtain ⟨zc0, zc1, zc2, zc3, zc4, zc5, zc6, zc7⟩ := cells8' hz52
    have hlf := (Array.getElem?_eq_some_iff.1 hf52).1
    obtain ⟨fc0, fc1, fc2, fc3, fc4⟩ := cells5' hf52
    go_wp2_with fail
    clear hlz zc0 zc1 zc2 zc3 zc4 zc5 zc6 zc7 hlf fc0 fc1 fc2 fc3 fc4
    refine (refFrSame_c ht52.f hg52 true (by unfold sameF; simp)).mono ?_
    rintro e w53 ⟨rfl, hB53⟩
    have hT53 := below_then hT52 hB53
    have hz53 := block_below hB53 hz52
    have hf53 := block_below hB53 hf52
    have hM53 := NSl.to hM52 hB53
    have hu53 := NSl.to hu52 hB53
    have ht53 := TIs.to ht52 hB53
    have hAt53 := nat_to hAt52 hB53
    have hV53 := NIs.to hV52 hB53
    have hg53 := FIs.to hg52 hB53
    clear hT52 hz52 hf52 hM52 hu52 ht52 hAt52 hV52 hg52 hB53
    go_wp2_with fail
    go_ret
    exact ⟨rfl, hT53⟩
end Go.Proofs.YtcifjccojmfpaaaGreat

